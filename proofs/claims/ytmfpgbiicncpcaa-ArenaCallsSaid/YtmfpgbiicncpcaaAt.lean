/-
  Contracts: the place of a reference's node, as the document tells it (At).
-/
import Derived.Test.YtmfpgbiicncpcaaGet
set_option linter.unusedVariables false
set_option linter.unusedSimpArgs false
namespace Go.Proofs.Ytmfpgbiicncpcaa
open Go.RowKit

theorem NdAt.kc {w : World} {a : Addr} {x : Nd} (h : NdAt w a x) : w.cell? a = some (.int .i64 x.k) := h 0 _ rfl
theorem NdAt.gc {w : World} {a : Addr} {x : Nd} (h : NdAt w a x) : w.cell? { block := a.block, off := a.off + 1 } = some (.int .i64 x.g) := h 1 _ rfl

set_option maxHeartbeats 1600000 in
theorem at_yes (A : Option Addr) (n c m d : Nat) (B : Option Addr) (ns : List Nd) (r : Int) (p : Nat) (x : Nd) (w : World) (h0 : 0 ≤ r) (h1 : r ≤ 18446744073709551615) (h : Rd w 16 A n (flat Nd.cells ns)) (hg : Got ns r p x) :
    Calls Try.prog 15 #[.agg #[.slice A n c, .slice B m d], .int .u64 r] w fun e w' => e = .returned (.int .i64 p) ∧ Ext w w' := by
  obtain ⟨w1, hw1⟩ : ∃ w1, w1 = w.alloc (.cells #[.slice A n c, .slice B m d] 25) := ⟨_, rfl⟩
  obtain ⟨B1, hx1, hs1⟩ := box_made hw1
  have hl : ns.length = n := by
    have := h.1
    rw [flat_length Nd.cells_length] at this
    omega
  have hpn : p < n := by have := (List.getElem?_eq_some_iff.1 hg.at_).1; omega
  have hnp : ¬ n ≤ p := by omega
  have hG := fun W => want_gen r W h0 h1
  rw [if_pos hg.node, ← hg.gen] at hG
  have HG := Lib.hid hG
  have hr0 : ¬ r = 0 := fun e => by have := hg.node.1; subst e; simp at this
  have hr0' : (r == 0) = false := by simp [hr0]
  have hr1 : r % 65536 = p + 1 := hg.place
  have hg0 : ¬ x.g < 0 := by rw [hg.gen]; omega
  obtain ⟨ad, rfl, hn⟩ := NdAt.of (h.to hx1) hg.at_
  have s0 := fun q : Later w1 => (B1.to q.ext).cell 0
  have s1 := fun q : Later w1 => (B1.to q.ext).cell 1
  have s2 := fun q : Later w1 => (hn.to q.ext).kc
  have s3 := fun q : Later w1 => (hn.to q.ext).gc
  simp only [List.getElem?_toArray, List.getElem?_cons_zero, List.getElem?_cons_succ] at s0 s1
  obtain ⟨kk, hkk⟩ : ∃ kk, kk = x.k := ⟨_, rfl⟩
  have hk0 := hg.kind
  rw [← hkk] at s2 hk0
  obtain ⟨gg, hgg⟩ : ∃ gg, gg = x.g := ⟨_, rfl⟩
  rw [← hgg] at s3 HG hg0
  have hk1 : (kk == 0) = false := by simp [hk0]
  have H1 := Lib.hid hw1
  have X1 := Lib.hid hx1
  have S := Lib.hid (And.intro s0 (And.intro s1 (And.intro s2 s3)))
  have HR := Lib.hid (show IntKind.i64.wrap (r % 65536 - 1) = (p : Int) by rw [hr1, IntKind.wrap_i64]; omega)
  clear hG hkk hgg hl hn B1 hw1 hx1 hg h s0 s1 s2 s3
  go_enter Try.func15, Try.ntmps15
  go_wp2_with fail
  refine (HG.out _).mono ?_; rintro e w3 ⟨rfl, rfl⟩
  rw [← H1.out]
  go_wp2_with fail
  obtain ⟨s0, s1, s2, s3⟩ := S.out
  go_cut [41] (fun t wx => t = .bool false ∧ Ext w1 wx)
  case first =>
    refine wp_region_later w1 (Ext.refl _) (by kernel_rfl) (by kernel_rfl) ?_
    repeat (go_big_quiet_step (first | (go_at_call 34; exact later_same (fun W _ => HG.out W))))
    refine wpQuiet_nil ?_
    rintro _ ⟨q, rfl⟩
    go_wp2_with fail
    go_meet
    exact ⟨rfl, q.ext⟩
  case rest =>
    obtain ⟨rfl, hx⟩ := hcut
    clear s0 s1 s2 s3
    go_wp2_with fail
    go_ret
    exact ⟨rfl, X1.out.step hx⟩

set_option maxHeartbeats 1600000 in
theorem at_no (A : Option Addr) (n c m d : Nat) (B : Option Addr) (ns : List Nd) (r : Int) (w : World) (h0 : 0 ≤ r) (h1 : r ≤ 18446744073709551615) (h : Rd w 16 A n (flat Nd.cells ns)) (hg : Gone ns r) :
    Calls Try.prog 15 #[.agg #[.slice A n c, .slice B m d], .int .u64 r] w fun e w' => e = .returned (.int .i64 (-1)) ∧ Ext w w' := by
  obtain ⟨w1, hw1⟩ : ∃ w1, w1 = w.alloc (.cells #[.slice A n c, .slice B m d] 25) := ⟨_, rfl⟩
  obtain ⟨B1, hx1, hs1⟩ := box_made hw1
  have H1 := Lib.hid hw1
  have X1 := Lib.hid hx1
  by_cases hr0 : r = 0
  · subst hr0
    clear hw1 hx1 hs1 B1 hg
    go_enter Try.func15, Try.ntmps15
    go_wp2_with fail
    go_ret
    exact ⟨rfl, (Ext.refl w).new _⟩
  · have hr0' : (r == 0) = false := by simp [hr0]
    have hG := fun W => want_gen r W h0 h1
    by_cases hr : Node r
    · rw [if_pos hr] at hG
      have HG := Lib.hid hG
      obtain ⟨p, hp⟩ : ∃ p : Nat, r % 65536 = p + 1 := ⟨(r % 65536 - 1).toNat, by have := hr.1; omega⟩
      have hl : ns.length = n := by
        have := h.1
        rw [flat_length Nd.cells_length] at this
        omega
      have HL := Lib.hid hl
      have hg0 : ¬ r / 65536 < 0 := by omega
      obtain ⟨gr, hgr⟩ : ∃ gr, gr = r / 65536 := ⟨_, rfl⟩
      rw [← hgr] at HG hg0
      have hr1 : r % 65536 = p + 1 := hp
      have HR := Lib.hid hr
      have HGR := Lib.hid hgr
      have HGo := Lib.hid hg
      have s0 := fun q : Later w1 => (B1.to q.ext).cell 0
      have s1 := fun q : Later w1 => (B1.to q.ext).cell 1
      simp only [List.getElem?_toArray, List.getElem?_cons_zero, List.getElem?_cons_succ] at s0 s1
      have h1' := Lib.hid (h.to hx1)
      have S := Lib.hid (And.intro s0 s1)
      clear hG hgr hr hp hl B1 hw1 hx1 hg h s0 s1
      by_cases hpn : p < n
      · have hnp : ¬ n ≤ p := by omega
        obtain ⟨x, hx⟩ : ∃ x, ns[p]? = some x := ⟨_, List.getElem?_eq_getElem (by have := HL.out; omega)⟩
        obtain ⟨ad, rfl, hn⟩ := NdAt.of h1'.out hx
        have s2 := fun q : Later w1 => (hn.to q.ext).kc
        have s3 := fun q : Later w1 => (hn.to q.ext).gc
        obtain ⟨kk, hkk⟩ : ∃ kk, kk = x.k := ⟨_, rfl⟩
        rw [← hkk] at s2
        obtain ⟨gg, hgg⟩ : ∃ gg, gg = x.g := ⟨_, rfl⟩
        rw [← hgg] at s3
        have S2 := Lib.hid (And.intro s2 s3)
        have HX := Lib.hid hx
        have HK := Lib.hid hkk
        have HGG := Lib.hid hgg
        clear hx hn s2 s3 hkk hgg
        by_cases hk : kk = 0
        · subst hk
          go_enter Try.func15, Try.ntmps15
          go_wp2_with fail
          refine (HG.out _).mono ?_; rintro e w3 ⟨rfl, rfl⟩
          rw [← H1.out]
          go_wp2_with fail
          obtain ⟨s0, s1⟩ := S.out
          obtain ⟨s2, s3⟩ := S2.out
          go_cut [41] (fun t wx => t = .bool true ∧ Ext w1 wx)
          case first =>
            refine wp_region_later w1 (Ext.refl _) (by kernel_rfl) (by kernel_rfl) ?_
            repeat (go_big_quiet_step (first | (go_at_call 34; exact later_same (fun W _ => HG.out W))))
            refine wpQuiet_nil ?_
            rintro _ ⟨q, rfl⟩
            go_wp2_with fail
            go_meet
            exact ⟨rfl, q.ext⟩
          case rest =>
            obtain ⟨rfl, hx⟩ := hcut
            clear s0 s1
            go_wp2_with fail
            go_ret
            exact ⟨rfl, X1.out.step hx⟩
        · have hk1 : (kk == 0) = false := by simp [hk]
          have hne : gg ≠ gr := fun e => HGo.out p x ⟨HR.out, hr1, HX.out, by rw [← HK.out]; exact hk, by rw [← HGG.out, e, HGR.out]⟩
          have hne1 : (gg == gr) = false := by simp [hne]
          have hne2 : (gg != gr) = true := by simp [hne]
          go_enter Try.func15, Try.ntmps15
          go_wp2_with fail
          refine (HG.out _).mono ?_; rintro e w3 ⟨rfl, rfl⟩
          rw [← H1.out]
          go_wp2_with fail
          obtain ⟨s0, s1⟩ := S.out
          obtain ⟨s2, s3⟩ := S2.out
          go_cut [41] (fun t wx => t = .bool true ∧ Ext w1 wx)
          case first =>
            refine wp_region_later w1 (Ext.refl _) (by kernel_rfl) (by kernel_rfl) ?_
            repeat (go_big_quiet_step (first | (go_at_call 34; exact later_same (fun W _ => HG.out W))))
            refine wpQuiet_nil ?_
            rintro _ ⟨q, rfl⟩
            go_wp2_with fail
            go_meet
            exact ⟨rfl, q.ext⟩
          case rest =>
            obtain ⟨rfl, hx⟩ := hcut
            clear s0 s1
            go_wp2_with fail
            go_ret
            exact ⟨rfl, X1.out.step hx⟩
      · have hnp : n ≤ p := by omega
        go_enter Try.func15, Try.ntmps15
        go_wp2_with fail
        refine (HG.out _).mono ?_; rintro e w3 ⟨rfl, rfl⟩
        rw [← H1.out]
        go_wp2_with fail
        obtain ⟨s0, s1⟩ := S.out
        go_cut [41] (fun t wx => t = .bool true ∧ Ext w1 wx)
        case first =>
          refine wp_region_later w1 (Ext.refl _) (by kernel_rfl) (by kernel_rfl) ?_
          repeat (go_big_quiet_step (first | (go_at_call 34; exact later_same (fun W _ => HG.out W))))
          refine wpQuiet_nil ?_
          rintro _ ⟨q, rfl⟩
          go_wp2_with fail
          go_meet
          exact ⟨rfl, q.ext⟩
        case rest =>
          obtain ⟨rfl, hx⟩ := hcut
          clear s0 s1
          go_wp2_with fail
          go_ret
          exact ⟨rfl, X1.out.step hx⟩
    · rw [if_neg hr] at hG
      have HG := Lib.hid hG
      clear hG hr hw1 hx1 hs1 B1 hg
      go_enter Try.func15, Try.ntmps15
      go_wp2_with fail
      refine (HG.out _).mono ?_; rintro e w3 ⟨rfl, rfl⟩
      go_wp2_with fail
      go_ret
      exact ⟨rfl, (Ext.refl w).new _⟩

end Go.Proofs.Ytmfpgbiicncpcaa
