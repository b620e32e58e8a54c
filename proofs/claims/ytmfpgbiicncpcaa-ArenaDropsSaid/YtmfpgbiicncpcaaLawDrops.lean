/-
  The walk of ArenaDrops.
-/
import Derived.Test.YtmfpgbiicncpcaaArMake3
import Derived.Test.YtmfpgbiicncpcaaApp0
import Derived.Deep.RegionHeld3
set_option linter.unusedVariables false
set_option linter.unusedSimpArgs false
namespace Go.Proofs.Ytmfpgbiicncpcaa
open Go.RowKit

/-- What Drop leaves. -/
def DropOut (W : World) (b n m q : Nat) (ns : List Nd) (fs ps : List Int) (e : Int) : Prop :=
  (e = 1 ∧ (¬ ArMay ns fs ∨ drops ns ps = none) ∧ Bx W b #[.slice none 0 0, .slice none 0 0]) ∨
  (e = 0 ∧ ArMay ns fs ∧ ∃ ns', drops ns ps = some ns' ∧ ∃ g c' B' d', Bx W b #[.slice (some ⟨g, 0, none⟩) n c', .slice B' (m + q : Nat) d'] ∧ Ar W (some ⟨g, 0, none⟩) n B' (m + q) ns' (fs ++ ps))
theorem DropOut.to {W W' : World} {b n m q : Nat} {ns : List Nd} {fs ps : List Int} {e : Int} (h : DropOut W b n m q ns fs ps e) (hx : Ext W W') : DropOut W' b n m q ns fs ps e := by
  rcases h with ⟨h1, h2, h3⟩ | ⟨h1, h2, ns', h3, g, c', B', d', h4, h5⟩
  · exact .inl ⟨h1, h2, h3.to hx⟩
  · exact .inr ⟨h1, h2, ns', h3, g, c', B', d', h4.to hx, h5.to hx⟩

/-- The copy that the statement makes. -/
def WantA (W0 W : World) (b n m : Nat) (ns : List Nd) (fs : List Int) : Prop :=
  ∃ A c B d loA hiA loB hiB, Bx W b #[.slice A n c, .slice B m d] ∧ RowOr W loA hiA 30 16 (.slice A n c) n (flat Nd.cells ns) ∧ RowOr W loB hiB 3 1 (.slice B m d) m (Ks .i64 fs) ∧
    W0.heap.size ≤ b ∧ W0.heap.size ≤ loA ∧ W0.heap.size ≤ loB ∧ (b < loA ∨ hiA ≤ b) ∧ (b < loB ∨ hiB ≤ b) ∧ (hiA ≤ loB ∨ hiB ≤ loA)

theorem addr_add0 (p : Addr) : p.add 0 = p := by unfold Addr.add; split <;> simp_all
theorem sz_alloc (W : World) (o : Obj) : (W.alloc o).heap.size = W.heap.size + 1 := by simp
theorem sz_drew (W : World) : W.drew.heap.size = W.heap.size := rfl
theorem RowOr.only {W W' : World} {lo hi b : Nat} {e : TypeId} {size n : Nat} {v : Value} {xs : List Value} (h : RowOr W lo hi e size v n xs) (ho : Only b W W') (hb : b < lo ∨ hi ≤ b) : RowOr W' lo hi e size v n xs :=
  h.imp (fun h => ⟨own_only h.1 ho (fun e => by have h1 := h.2 _ e; have h2 := (h.1.lt _ e).1; omega), h.2⟩) id
theorem want_two {W0 W : World} {b n m loA hiA loB hiB : Nat} {ns : List Nd} {fs : List Int} {A B : Option Addr} {c d : Nat} {x y : Value} (hB : Bx W b #[x, y]) (hA : RowOr W loA hiA 30 16 (.slice A n c) n (flat Nd.cells ns)) (hF : RowOr W loB hiB 3 1 (.slice B m d) m (Ks .i64 fs))
    (h1 : W0.heap.size ≤ b) (h2 : W0.heap.size ≤ loA) (h3 : W0.heap.size ≤ loB) (h4 : b < loA ∨ hiA ≤ b) (h5 : b < loB ∨ hiB ≤ b) (h6 : hiA ≤ loB ∨ hiB ≤ loA) :
    WantA W0 ((W.setCell ⟨b, 0, none⟩ (.slice A n c)).setCell ⟨b, 1, none⟩ (.slice B m d)) b n m ns fs :=
  ⟨A, c, B, d, loA, hiA, loB, hiB, hB.two _ _, hA.only (Only.two _ _ _ _) h4, hF.only (Only.two _ _ _ _) h5, h1, h2, h3, h4, h5, h6⟩
theorem want_new {W0 W : World} {b n m loA hiA loB hiB : Nat} {ns : List Nd} {fs : List Int} {A B : Option Addr} {c d : Nat} {t : TypeId} (hA : RowOr W loA hiA 30 16 (.slice A n c) n (flat Nd.cells ns)) (hF : RowOr W loB hiB 3 1 (.slice B m d) m (Ks .i64 fs))
    (hb : b = W.heap.size) (h1 : W0.heap.size ≤ b) (h2 : W0.heap.size ≤ loA) (h3 : W0.heap.size ≤ loB) (h4 : b < loA ∨ hiA ≤ b) (h5 : b < loB ∨ hiB ≤ b) (h6 : hiA ≤ loB ∨ hiB ≤ loA) :
    WantA W0 (W.alloc (.cells #[.slice A n c, .slice B m d] t)) b n m ns fs := by
  subst hb
  exact ⟨A, c, B, d, loA, hiA, loB, hiB, Bx.new _ _ _, hA.to ((Ext.refl _).new _), hF.to ((Ext.refl _).new _), h1, h2, h3, h4, h5, h6⟩

set_option maxHeartbeats 6400000 in
set_option maxRecDepth 100000 in
theorem drops_walk (A B C : Option Addr) (n m q c d r : Nat) (ns : List Nd) (fs ps : List Int) (w : World) (h : Ar w A n B m ns fs) (hnc : n ≤ c) (hmd : m ≤ d) (hc : c ≤ maxLen) (hd : d ≤ maxLen) (hp : Rd w 1 C q (Ks .i64 ps)) (hqr : q ≤ r) (hr : r ≤ maxLen) :
    Calls Try.prog 4 #[.agg #[.slice A n c, .slice B m d], .slice C q r] w fun e w' => e = .returned (.bool true) ∧ Ext w w' := by
  obtain ⟨w1, hw1⟩ : ∃ w1, w1 = w.alloc (.cells #[.slice A n c, .slice B m d] 25) := ⟨_, rfl⟩
  obtain ⟨B1, hx1, hs1⟩ := box_made hw1
  have hAn : A = none → n = 0 := fun e => by
    rcases Nat.eq_zero_or_pos n with h' | h'
    · exact h'
    · obtain ⟨ad, ha⟩ := h.nodes.some_ h' (by omega)
      rw [e] at ha; cases ha
  have hBn : B = none → m = 0 := fun e => by
    rcases Nat.eq_zero_or_pos m with h' | h'
    · exact h'
    · obtain ⟨ad, ha⟩ := h.free.some_ h' (by omega)
      rw [e] at ha; cases ha
  have hCn : C = none → q = 0 := fun e => by
    rcases Nat.eq_zero_or_pos q with h' | h'
    · exact h'
    · obtain ⟨ad, ha⟩ := hp.some_ h' (by omega)
      rw [e] at ha; cases ha
  have HF := Lib.hid (fun W => few_is A B n m c d W hAn hBn hnc hmd hc hd)
  have HB1 := Lib.hid B1
  have X1 := Lib.hid hx1
  have H1 := Lib.hid hw1
  have HA := Lib.hid (h.few)
  have hn40 : min n 40 ≤ 40 := by omega
  have hm42 : min m 42 ≤ 42 := by omega
  generalize ns.take 40 = ns' at HA
  generalize fs.take 42 = fs' at HA
  generalize min n 40 = n' at HF HA hn40
  generalize min m 42 = m' at HF HA hm42
  have HP : Hid (Rd w 1 C (min q 10) (Ks .i64 (ps.take 10))) := by
    have h2 := hp.take (k := min q 10) (by omega)
    have e2 : (Ks .i64 ps).take (min q 10 * 1) = Ks .i64 (ps.take 10) := by
      have hl : ps.length = q := by have := hp.1; simpa [Ks] using this
      unfold Ks
      rw [List.map_take, Nat.mul_one, ← hl, Nat.min_comm, List.take_eq_take_iff]
      simp
    rw [e2] at h2
    exact Lib.hid h2
  have hqm : (q ≤ 10 ∧ min q 10 = q) ∨ (10 < q ∧ min q 10 = 10) := by omega
  have hq10 : min q 10 ≤ 10 := by omega
  generalize ps.take 10 = ps' at HP
  generalize min q 10 = q' at HP hqm hq10
  have HPL := Lib.hid (show ps'.length = q' by have := HP.out.1; simpa [Ks] using this)
  have HD := Lib.hid (And.intro hc hd)
  have HQM := Lib.hid hqm
  simp only [maxLen] at hr
  clear hw1 B1 hx1 hs1 hAn hBn h hp hqm hnc hmd hc hd
  go_enter Try.func4, Try.ntmps4
  go_upto_region 1 with fail
  rw [← H1.out]
  go_cut [1] (fun s1 wx => s1 = .slice C q' r ∧ Ext w wx ∧ Hid (Bx wx w.heap.size #[.slice A n' c, .slice B m' d]))
  case first =>
    have k0 : w1.cell? ⟨w.heap.size, 0, none⟩ = some (.slice A n c) := HB1.out.cell 0
    have k1 : w1.cell? ⟨w.heap.size, 1, none⟩ = some (.slice B m d) := HB1.out.cell 1
    rcases HQM.out with ⟨hq, rfl⟩ | ⟨hq, rfl⟩
    · have e3 : min (q' : Int) 10 = q' := by omega
      go_region_with (first
        | (go_at_call 9
           refine (HF.out _).mono ?_
           rintro e w3 ⟨rfl, hx3⟩
           have B3 := HB1.out.to hx3.undrew
           have E3 := Lib.hid (X1.out.step hx3.undrew)
           have HB3 := Lib.hid B3
           have k0 : w3.cell? ⟨w.heap.size, 0, none⟩ = some (.slice A n c) := B3.cell 0
           have k1 : w3.cell? ⟨w.heap.size, 1, none⟩ = some (.slice B m d) := B3.cell 1
           have k2 : w3.frozen? ⟨w.heap.size, 0, none⟩ = false := B3.free 0
           have k3 : w3.frozen? ⟨w.heap.size, 1, none⟩ = false := B3.free 1
           clear B3 hx3))
      all_goals go_wp2_with fail
      all_goals go_meet
      all_goals exact ⟨rfl, (Only.two _ _ _ _).new E3.out (Nat.le_refl _), Lib.hid (HB3.out.two _ _)⟩
    · have e3 : min (q : Int) 10 = 10 := by omega
      go_region_with (first
        | (go_at_call 9
           refine (HF.out _).mono ?_
           rintro e w3 ⟨rfl, hx3⟩
           have B3 := HB1.out.to hx3.undrew
           have E3 := Lib.hid (X1.out.step hx3.undrew)
           have HB3 := Lib.hid B3
           have k0 : w3.cell? ⟨w.heap.size, 0, none⟩ = some (.slice A n c) := B3.cell 0
           have k1 : w3.cell? ⟨w.heap.size, 1, none⟩ = some (.slice B m d) := B3.cell 1
           have k2 : w3.frozen? ⟨w.heap.size, 0, none⟩ = false := B3.free 0
           have k3 : w3.frozen? ⟨w.heap.size, 1, none⟩ = false := B3.free 1
           clear B3 hx3))
      all_goals go_wp2_with fail
      all_goals go_meet
      all_goals exact ⟨rfl, (Only.two _ _ _ _).new E3.out (Nat.le_refl _), Lib.hid (HB3.out.two _ _)⟩
  case rest =>
    obtain ⟨rfl, hx3, HB3⟩ := hcut
    rename World => w3
    have HX3 := Lib.hid hx3
    have HA3 := Lib.hid (HA.out.to hx3)
    have HP3 := Lib.hid (HP.out.to hx3)
    clear hx3 HB1 HF HA HP
    go_upto_region 2 with fail
    go_cut [5, 6] (fun s5 s6 wx => Ext w3 wx ∧ ∃ (b : Nat) (e : Int), s5 = .pointer (some ⟨b, 0, none⟩) ∧ s6 = .int .i64 e ∧ Hid (DropOut wx b n' m' q' ns' fs' ps' e))
    case first =>
      have k0 : w3.cell? ⟨w.heap.size, 0, none⟩ = some (.slice A n' c) := HB3.out.cell 0
      have k1 : w3.cell? ⟨w.heap.size, 1, none⟩ = some (.slice B m' d) := HB3.out.cell 1
      have HDr := Lib.hid (drop_all A B C n' m' c d q' r ns' fs' ps' w3 HA3.out (by omega) (by omega) (by omega) HP3.out)
      go_wp2_with fail
      refine HDr.out.mono ?_
      rintro e w6 (⟨hno, rfl, hx6⟩ | ⟨hmay, nsd, hdr, g, c', B', d', rfl, _, _, hA6, hx6, hf6⟩)
      · go_wp2_with fail
        go_meet
        case rel => exact ⟨hx6.step ((Ext.refl _).new _), _, _, rfl, rfl, Lib.hid (.inl ⟨rfl, hno, Bx.new _ _ _⟩)⟩
      · go_wp2_with fail
        go_meet
        case rel => exact ⟨hx6.step ((Ext.refl _).new _), _, _, rfl, rfl, Lib.hid (.inr ⟨rfl, hmay, nsd, hdr, g, c', B', d', Bx.new _ _ _, hA6.to ((Ext.refl _).new _)⟩)⟩
    case rest =>
      obtain ⟨hx5, b5, e5, rfl, rfl, HO⟩ := hcut
      rename World => w5
      have HB5 := Lib.hid (HB3.out.to hx5)
      have HA5 := Lib.hid (HA3.out.to hx5)
      have HP5 := Lib.hid (HP3.out.to hx5)
      have HX5 := Lib.hid (HX3.out.step hx5)
      clear hx5 HB3 HA3 HP3 HX3
      obtain ⟨may, hmay⟩ : ∃ may : Bool, may = true ↔ ArMay ns' fs' := (Classical.em (ArMay ns' fs')).elim (fun h => ⟨true, by simp [h]⟩) (fun h => ⟨false, by simp [h]⟩)
      have HM := Lib.hid hmay
      have HR := Lib.hid (want_right A B n' m' c d ns' fs' w5 HA5.out (by omega) (by omega) may hmay)
      have k0 : w5.cell? ⟨w.heap.size, 0, none⟩ = some (.slice A n' c) := HB5.out.cell 0
      have k1 : w5.cell? ⟨w.heap.size, 1, none⟩ = some (.slice B m' d) := HB5.out.cell 1
      clear hmay
      go_wp2_with fail
      refine HR.out.mono ?_; rintro e w7 ⟨rfl, hx7⟩
      have HB7 := Lib.hid (HB5.out.to hx7)
      have HA7 := Lib.hid (HA5.out.to hx7)
      have HP7 := Lib.hid (HP5.out.to hx7)
      have HX7 := Lib.hid (HX5.out.step hx7)
      have HO7 := Lib.hid (HO.out.to hx7)
      clear hx7 HB5 HA5 HP5 HX5 HO k0 k1
      go_upto_region 4 with fail
      go_cut [8] (fun s8 wx => Ext w7 wx ∧ ∃ b : Nat, s8 = .pointer (some ⟨b, 0, none⟩) ∧ Hid (WantA w7 wx b n' m' ns' fs'))
      case first =>
        obtain ⟨i0, hi0, hz0, hz1, hz2⟩ := info_parts node_info
        obtain ⟨i1, hi1, hy0, hy1, hy2⟩ := info_parts int_info
        have HS := Lib.hid (fun W (hW : Ext w7 W) => (show W.cell? ⟨w.heap.size, 0, none⟩ = some (.slice A n' c) ∧ W.cell? ⟨w.heap.size, 1, none⟩ = some (.slice B m' d) from ⟨(HB7.out.to hW).cell 0, (HB7.out.to hW).cell 1⟩))
        have HRn := Lib.hid HA7.out.nodes
        have HRf := Lib.hid HA7.out.free
        obtain ⟨k0, k1⟩ := HS.out w7 (Ext.refl _)
        go_region_held3 (fun w' => w'.cell? ⟨w.heap.size, 0, none⟩ = some (.slice A n' c) ∧ w'.cell? ⟨w.heap.size, 1, none⟩ = some (.slice B m' d)) (exact HS.out _ (by repeat (first | exact Ext.refl _ | assumption | with_reducible refine Ext.drew ?_ | with_reducible refine Ext.new ?_ _ | with_reducible refine Ext.set ?_ _ (by omega))))
          (first
            | (refine step_append_new rfl (.tmp 27) (.tmp 29) _ rfl 30 i0 _ 16 128 Try.underlying22 hi0 hz0 hz1 hz2 rfl (by omega) _ (by rfl) A n' c (flat Nd.cells ns') (by rfl) (HRn.out.to ?_) (flat_one Nd.cells_one ns') (by simp only [maxLen]; omega) (by omega) ?_
               · repeat (first | exact Ext.refl _ | assumption | with_reducible refine Ext.drew ?_ | with_reducible refine Ext.new ?_ _)
               intro A1 c1 w1 hl1 hx1
               have e1 : Ext w7 w1 := by
                 refine Ext.step ?_ hx1
                 repeat (first | exact Ext.refl _ | assumption | with_reducible refine Ext.drew ?_ | with_reducible refine Ext.new ?_ _)
               have r1 := hl1.or
               have z1 := hx1.size
               try simp only [sz_alloc, sz_drew] at z1
               try have r2 := RowOr.to r2 (by refine Ext.step ?_ hx1; repeat (first | exact Ext.refl _ | assumption | with_reducible refine Ext.drew ?_ | with_reducible refine Ext.new ?_ _))
               try have zb := Bx.to zb (by refine Ext.step ?_ hx1; repeat (first | exact Ext.refl _ | assumption | with_reducible refine Ext.drew ?_ | with_reducible refine Ext.new ?_ _))
               try have zb := Bx.to (Bx.new _ #[.slice none 0 0, .slice none 0 0] _) hx1
               try have zb := Bx.to (Bx.new _ #[.slice none 0 0, .slice none 0 0] _) hx1.undrew
               try have zb := Bx.to ((Bx.new _ #[.slice none 0 0, .slice none 0 0] _).alloc _) hx1
               try have zb := Bx.to ((Bx.new _ #[.slice none 0 0, .slice none 0 0] _).alloc _) hx1.undrew
               try have zb := Bx.to (((Bx.new _ #[.slice none 0 0, .slice none 0 0] _).alloc _).alloc _) hx1
               try have zb := Bx.to (((Bx.new _ #[.slice none 0 0, .slice none 0 0] _).alloc _).alloc _) hx1.undrew
               try simp at zb
               try have zb0 : w1.cell? ⟨_, 0, none⟩ = some (.slice none 0 0) := zb.cell 0
               try have zb1 : w1.cell? ⟨_, 1, none⟩ = some (.slice none 0 0) := zb.cell 1
               try have zb2 : w1.frozen? ⟨_, 0, none⟩ = false := zb.free 0
               try have zb3 : w1.frozen? ⟨_, 1, none⟩ = false := zb.free 1)
            | (refine step_append_new rfl (.tmp 31) (.tmp 33) _ rfl 3 i1 _ 1 8 Try.underlying23 hi1 hy0 hy1 hy2 rfl (by omega) _ (by rfl) B m' d (Ks .i64 fs') (by rfl) (HRf.out.to ?_) (Ks_one _ fs') (by simp only [maxLen]; omega) (by omega) ?_
               · repeat (first | exact Ext.refl _ | assumption | with_reducible refine Ext.drew ?_ | with_reducible refine Ext.new ?_ _)
               intro A2 c2 w2 hl2 hx2
               have e2 : Ext w7 w2 := by
                 refine Ext.step ?_ hx2
                 repeat (first | exact Ext.refl _ | assumption | with_reducible refine Ext.drew ?_ | with_reducible refine Ext.new ?_ _)
               have r2 := hl2.or
               have z2 := hx2.size
               try simp only [sz_alloc, sz_drew] at z2
               try have r1 := RowOr.to r1 (by refine Ext.step ?_ hx2; repeat (first | exact Ext.refl _ | assumption | with_reducible refine Ext.drew ?_ | with_reducible refine Ext.new ?_ _))
               try have zb := Bx.to zb (by refine Ext.step ?_ hx2; repeat (first | exact Ext.refl _ | assumption | with_reducible refine Ext.drew ?_ | with_reducible refine Ext.new ?_ _))
               try have zb := Bx.to (Bx.new _ #[.slice none 0 0, .slice none 0 0] _) hx2
               try have zb := Bx.to (Bx.new _ #[.slice none 0 0, .slice none 0 0] _) hx2.undrew
               try have zb := Bx.to ((Bx.new _ #[.slice none 0 0, .slice none 0 0] _).alloc _) hx2
               try have zb := Bx.to ((Bx.new _ #[.slice none 0 0, .slice none 0 0] _).alloc _) hx2.undrew
               try have zb := Bx.to (((Bx.new _ #[.slice none 0 0, .slice none 0 0] _).alloc _).alloc _) hx2
               try have zb := Bx.to (((Bx.new _ #[.slice none 0 0, .slice none 0 0] _).alloc _).alloc _) hx2.undrew
               try simp at zb
               try have zb0 : w2.cell? ⟨_, 0, none⟩ = some (.slice none 0 0) := zb.cell 0
               try have zb1 : w2.cell? ⟨_, 1, none⟩ = some (.slice none 0 0) := zb.cell 1
               try have zb2 : w2.frozen? ⟨_, 0, none⟩ = false := zb.free 0
               try have zb3 : w2.frozen? ⟨_, 1, none⟩ = false := zb.free 1))
        all_goals go_wp2_with fail
        all_goals go_meet
        all_goals refine ⟨by repeat (first | exact Ext.refl _ | assumption | with_reducible refine Ext.drew ?_ | with_reducible refine Ext.new ?_ _ | with_reducible refine Ext.set ?_ _ (by omega)), _, rfl, Lib.hid ?_⟩
        all_goals first
          | exact want_new r1 r2 (by rfl) (by first | omega | (simp only [sz_alloc, sz_drew]; omega) | (simp only [sz_alloc, sz_drew]; done)) (by first | omega | (simp only [sz_alloc, sz_drew]; omega) | (simp only [sz_alloc, sz_drew]; done)) (by first | omega | (simp only [sz_alloc, sz_drew]; omega) | (simp only [sz_alloc, sz_drew]; done)) (by first | omega | (simp only [sz_alloc, sz_drew]; omega) | (simp only [sz_alloc, sz_drew]; done)) (by first | omega | (simp only [sz_alloc, sz_drew]; omega) | (simp only [sz_alloc, sz_drew]; done)) (by first | omega | (simp only [sz_alloc, sz_drew]; omega) | (simp only [sz_alloc, sz_drew]; done))
          | exact want_two zb r1 r2 (by first | omega | (simp only [sz_alloc, sz_drew]; omega) | (simp only [sz_alloc, sz_drew]; done)) (by first | omega | (simp only [sz_alloc, sz_drew]; omega) | (simp only [sz_alloc, sz_drew]; done)) (by first | omega | (simp only [sz_alloc, sz_drew]; omega) | (simp only [sz_alloc, sz_drew]; done)) (by first | omega | (simp only [sz_alloc, sz_drew]; omega) | (simp only [sz_alloc, sz_drew]; done)) (by first | omega | (simp only [sz_alloc, sz_drew]; omega) | (simp only [sz_alloc, sz_drew]; done)) (by first | omega | (simp only [sz_alloc, sz_drew]; omega) | (simp only [sz_alloc, sz_drew]; done))
      case rest =>
        obtain ⟨hx8, b, rfl, hW⟩ := hcut
        rename World => w8
        have HX8 := Lib.hid hx8
        have HL := Lib.hid HA7.out.len
        have HLF := Lib.hid HA7.out.lenF
        have HOK := Lib.hid HA7.out.ok
        clear hx8 HB7 HR
        cases may with
        | false =>
          have E8 := Lib.hid (HX7.out.step HX8.out)
          have HO8 := Lib.hid (HO7.out.to HX8.out)
          have HP8 := Lib.hid (HP7.out.to HX8.out)
          have hno : ¬ ArMay ns' fs' := fun hh => by have := HM.out.2 hh; cases this
          obtain ⟨he, hB5⟩ : e5 = 1 ∧ Hid (Bx w8 b5 #[.slice none 0 0, .slice none 0 0]) := by
            rcases HO8.out with ⟨h1, h2, h3⟩ | ⟨h1, h2, _⟩
            · exact ⟨h1, Lib.hid h3⟩
            · exact absurd h2 hno
          subst he
          have HAl := Lib.hid (fun W (hW : Ext w8 W) => (alive4 W).mono fun e w' ⟨h1, h2⟩ => (show e = Ending.returned (.bool true) ∧ Ext w8 w' from ⟨h1, hW.step h2⟩))
          clear hno hW HM HO8
          rcases Nat.eq_zero_or_pos q' with hq0 | hq0
          · have hqz : (0 < q') = False := by simp; omega
            subst hq0
            go_wp2_with fail
            go_loopw [7, 10, 11, 38] (fun s7 _ _ j wr => Ext w8 wr ∧ s7 = .bool false ∧ j = .int .i64 0) (fun _ _ _ j _ => 1)
            case atStart => exact ⟨Ext.refl _, rfl, rfl⟩
            case round =>
              obtain ⟨hx9, rfl, rfl⟩ := hrel
              rename World => w9
              have HX9 := Lib.hid hx9
              clear hx9
              go_wp2_with fail
              refine (HAl.out _ HX9.out).mono ?_; rintro e w10 ⟨rfl, hx10⟩
              have c0 : w10.cell? ⟨b5, 0, none⟩ = some (.slice none 0 0) := (hB5.out.to hx10).cell 0
              have HX10 := Lib.hid hx10
              clear hx10
              go_wp2_with fail
              go_ret
              exact ⟨rfl, E8.out.step HX10.out⟩
          · obtain ⟨y, hy⟩ : ∃ y, ps'[0]? = some y := ⟨_, List.getElem?_eq_getElem (by have := HPL.out; omega)⟩
            obtain ⟨pd, rfl, hcell⟩ := HP8.out.2 0 (.int .i64 y) (by simp [Ks, hy])
            have HC := Lib.hid hcell
            clear hy hcell
            go_wp2_with fail
            go_loopw [7, 10, 11, 38] (fun s7 _ _ j wr => Ext w8 wr ∧ s7 = .bool false ∧ j = .int .i64 0) (fun _ _ _ j _ => 1)
            case atStart => exact ⟨Ext.refl _, rfl, rfl⟩
            case round =>
              obtain ⟨hx9, rfl, rfl⟩ := hrel
              rename World => w9
              have hcell := hx9.cellOf HC.out
              simp only [addr_add0] at hcell
              have HX9 := Lib.hid hx9
              clear hx9
              go_wp2_with fail
              refine (HAl.out _ HX9.out).mono ?_; rintro e w10 ⟨rfl, hx10⟩
              have c0 : w10.cell? ⟨b5, 0, none⟩ = some (.slice none 0 0) := (hB5.out.to hx10).cell 0
              have HX10 := Lib.hid hx10
              clear hx10
              go_wp2_with fail
              go_ret
              exact ⟨rfl, E8.out.step HX10.out⟩
        | true =>
          have hmay : ArMay ns' fs' := HM.out.1 rfl
          have h0 : 0 < n' := by have := hmay.pos; have := HL.out; omega
          obtain ⟨A2, c2, B2, d2, loA, hiA, loB, hiB, hBb, hrA, hrB, h1, h2, h3, h4, h5, h6⟩ := hW.out
          obtain ⟨hoA, hltA⟩ := hrA.resolve_right (fun hz => by have := hz.1; omega)
          obtain ⟨g, c2', hs2, hgA, hN0⟩ := OwnN.of_own hoA h0
          injection hs2 with e1 _ e3
          subst e1 e3
          have hgB := hltA g rfl
          have hg7 : w7.heap.size ≤ g := by omega
          have hb7 : w7.heap.size ≤ b := h1
          have hbg : b ≠ g := by omega
          have hR0 : RowB w8 w7.heap.size b g 3 1 (.slice B2 m' d2) m' (Ks .i64 fs') := by
            rcases hrB with ⟨hoB, hltB⟩ | hz
            · refine .inl ⟨own_base hoB h3, fun k hk => ?_⟩
              have q1 := (hoB.lt k hk).1
              have q2 := hltB k hk
              omega
            · exact .inr hz
          have HN0 := Lib.hid hN0
          have HB0 := Lib.hid hBb
          have HR0 := Lib.hid hR0
          have HMAY := Lib.hid hmay
          have HGM := Lib.hid (fun x hx => (hmay.fits x hx).1)
          obtain ⟨i1, hi1, hy0, hy1, hy2⟩ := info_parts int_info
          clear hmay hW HM hBb hrB hoA hltA hgA hgB hN0 hR0 h1 h2 h3 h4 h5 h6
          go_wp2_with fail
          go_loopw [7, 10, 11, 38] (fun s7 _ _ j wr => Ext w7 wr ∧ s7 = .bool true ∧ ∃ k : Nat, k ≤ q' ∧ j = .int .i64 k ∧ ∃ nsk B2 d2, Hid (drops ns' (ps'.take k) = some nsk) ∧ Hid (OwnN wr g nsk) ∧ Hid (Bx wr b #[.slice (some ⟨g, 0, none⟩) n' c2, .slice B2 (m' + k : Nat) d2]) ∧ Hid (RowB wr w7.heap.size b g 3 1 (.slice B2 (m' + k : Nat) d2) (m' + k) (Ks .i64 (fs' ++ ps'.take k)))) (fun _ _ _ j _ => q' - (intOf j).toNat)
          case atStart => exact ⟨HX8.out, rfl, 0, Nat.zero_le _, rfl, ns', B2, d2, Lib.hid (by simp [drops]), HN0, HB0, Lib.hid (by simpa using HR0.out)⟩
          case round =>
            clear HN0 HB0 HR0
            obtain ⟨hx9, rfl, k, hk, rfl, nsk, B2, d2, hD, hN, hB, hR⟩ := hrel
            rename World => w9
            have HX9 := Lib.hid hx9
            have HLK := Lib.hid (show nsk.length = n' by rw [drops_length hD.out]; exact HL.out)
            have s0 : w9.cell? ⟨b, 0, none⟩ = some (.slice (some ⟨g, 0, none⟩) n' c2) := hB.out.cell 0
            have s1 : w9.cell? ⟨b, 1, none⟩ = some (.slice B2 (m' + k : Nat) d2) := hB.out.cell 1
            have hb9 := hB.out.lt
            have hg9 := hN.out.lt
            have h79 := hx9.size
            clear hx9
            by_cases hlt : k < q'
            · obtain ⟨y, hy⟩ : ∃ y, ps'[k]? = some y := ⟨_, List.getElem?_eq_getElem (by have := HPL.out; omega)⟩
              obtain ⟨pd, rfl, hcell⟩ := (HP7.out.to HX9.out).2 k (.int .i64 y) (by simp [Ks, hy])
              have HY := Lib.hid hy
              clear hy
              have HTK := Lib.hid (show drops ns' (ps'.take (k + 1)) = drop1 nsk y by rw [List.take_add_one, HY.out]; show drops ns' (ps'.take k ++ [y]) = _; rw [drops_snoc, hD.out]; rfl)
              cases hd : drop1 nsk y with
              | none =>
                have HNone := Lib.hid (drops_take_none (k + 1) (HTK.out.trans hd))
                have hkz := Lib.hid (drop1_none hd)
                obtain ⟨he, HB9⟩ : e5 = 1 ∧ Hid (Bx w9 b5 #[.slice none 0 0, .slice none 0 0]) := by
                  rcases (HO7.out.to HX9.out) with ⟨h1, h2, h3⟩ | ⟨h1, h2, nsd, h3, _⟩
                  · exact ⟨h1, Lib.hid h3⟩
                  · rw [HNone.out] at h3; cases h3
                subst he
                have HAl := Lib.hid (alive4 w9)
                clear hd
                by_cases z0 : y < 0
                · go_wp2_with fail
                  refine HAl.out.mono ?_; rintro e w10 ⟨rfl, hx10⟩
                  have c0 : w10.cell? ⟨b5, 0, none⟩ = some (.slice none 0 0) := (HB9.out.to hx10).cell 0
                  have HX10 := Lib.hid hx10
                  clear hx10
                  go_wp2_with fail
                  go_ret
                  exact ⟨rfl, HX7.out.step (HX9.out.step HX10.out)⟩
                · by_cases z1 : y < n'
                  · obtain ⟨p, rfl⟩ : ∃ p : Nat, y = p := ⟨y.toNat, by omega⟩
                    have hpn : p < n' := by omega
                    have hnp' : ¬ n' ≤ p := by omega
                    obtain ⟨xo, ho⟩ : ∃ xo, nsk[p]? = some xo := ⟨_, List.getElem?_eq_getElem (by have := HLK.out; omega)⟩
                    have c9 : w9.cell? ⟨g, p * 16, none⟩ = some (.int .i64 0) := by rw [← hkz.out p xo rfl ho]; exact (hN.out.at ho).kc
                    clear ho
                    go_wp2_with fail
                    refine HAl.out.mono ?_; rintro e w10 ⟨rfl, hx10⟩
                    have c0 : w10.cell? ⟨b5, 0, none⟩ = some (.slice none 0 0) := (HB9.out.to hx10).cell 0
                    have HX10 := Lib.hid hx10
                    clear hx10
                    go_wp2_with fail
                    go_ret
                    exact ⟨rfl, HX7.out.step (HX9.out.step HX10.out)⟩
                  · have z2 : (n' : Int) ≤ y := by omega
                    go_wp2_with fail
                    refine HAl.out.mono ?_; rintro e w10 ⟨rfl, hx10⟩
                    have c0 : w10.cell? ⟨b5, 0, none⟩ = some (.slice none 0 0) := (HB9.out.to hx10).cell 0
                    have HX10 := Lib.hid hx10
                    clear hx10
                    go_wp2_with fail
                    go_ret
                    exact ⟨rfl, HX7.out.step (HX9.out.step HX10.out)⟩
              | some ns2 =>
                obtain ⟨p, x, rfl, hx, hxk, rfl⟩ := drop1_some hd
                have HD' := Lib.hid (HTK.out.trans hd)
                have hpn : p < n' := by have := (List.getElem?_eq_some_iff.1 hx).1; have := HLK.out; omega
                have hnp' : ¬ n' ≤ p := by omega
                have hpl : p < nsk.length := (List.getElem?_eq_some_iff.1 hx).1
                have HPLL := Lib.hid hpl
                have hgx := drops_gens hD.out HGM.out x (List.mem_of_getElem? hx)
                have hgx1 := hgx.1
                have hgx2 := hgx.2
                have hna := hN.out.at hx
                have c9 : w9.cell? ⟨g, p * 16, none⟩ = some (.int .i64 x.k) := hna.kc
                have c10 : w9.cell? ⟨g, p * 16 + 1, none⟩ = some (.int .i64 x.g) := hna.gc
                have hk0 : (x.k == 0) = false := by simp [hxk]
                have ew : IntKind.i64.wrap (x.g + 1) = x.g + 1 := by rw [IntKind.wrap_i64]; omega
                clear hd hx hgx hna
                by_cases hgm : x.g < 1048576
                · have hg1 : ¬ (1048576 : Int) < x.g + 1 := by omega
                  go_upto_region 14 with (first
                    | (refine wpList_store_in (by rfl) _ _ (by rfl) g p (by rfl) (bare (x.g + 1)) (by rfl) nsk hN.out hpl ?_
                       intro w10 N10 O10
                       have B10 := O10.bx hB.out (by omega)
                       have hR10 := hR.out.only O10 (.inr rfl)
                       have u0 : w10.cell? ⟨b, 0, none⟩ = some (.slice (some ⟨g, 0, none⟩) n' c2) := B10.cell 0
                       have u1 : w10.cell? ⟨b, 1, none⟩ = some (.slice B2 (m' + k : Nat) d2) := B10.cell 1
                       have hs10 := O10.size
                       have HO10 := Lib.hid O10))
                  go_wp2_with
                    (at_builtin
                     refine wpList_append_b _ rfl (.tmp 80) (.tmp 82) _ rfl w7.heap.size b g 3 i1 _ 1 8 Try.underlying23 hi1 hy0 hy1 hy2 rfl (by omega) (.slice B2 (m' + k : Nat) d2) (m' + k) (Ks .i64 (fs' ++ ps'.take k)) rfl (hR10.to ((Ext.refl _).new _)) (some ⟨w10.heap.size, 0, none⟩) 1 1 [.int .i64 (p : Int)] rfl (Rd.lit w10 #[.int .i64 (p : Int)] 3 1 rfl) (by simp [Value.oneCell']) (by omega) (by simp only [maxLen]; omega) (by omega) (by rw [sz_alloc]; omega) (by rw [sz_alloc]; omega) (by rw [sz_alloc]; omega) ?_
                     intro B3 d3 w12 r hR12 hgr hrb hrg hrk
                     have B12 := (B10.alloc _).grown hgr hrb
                     have u0 : w12.cell? ⟨b, 0, none⟩ = some (.slice (some ⟨g, 0, none⟩) n' c2) := B12.cell 0
                     have u1 : w12.cell? ⟨b, 1, none⟩ = some (.slice B2 (m' + k : Nat) d2) := B12.cell 1
                     have u2 : w12.frozen? ⟨b, 1, none⟩ = false := B12.free 1)
                  have O13 := (Only.refl b w12).set 1 (.slice B3 (m' + k + 1 : Nat) d3)
                  have E10 : Ext w7 w10 := HO10.out.new HX9.out hg7
                  have E12 : Ext w7 w12 := Below.grown (E10.new _) hgr (by rw [sz_alloc]; omega) hrk
                  have E13 := O13.new E12 hb7
                  have N13 := ((N10.to ((Ext.refl _).new _)).grown hgr hrg).only O13 (by omega)
                  have B13 := B12.set (j := 1) (by simp) (.slice B3 (m' + k + 1 : Nat) d3)
                  have R13 := hR12.only O13 (.inl rfl)
                  have hKs : Ks .i64 (fs' ++ ps'.take k) ++ [.int .i64 (p : Int)] = Ks .i64 (fs' ++ ps'.take (k + 1)) := by
                    rw [List.take_add_one, HY.out]
                    simp [Ks]
                  rw [hKs] at R13
                  have hfo : foll x.g = x.g + 1 := by unfold foll; rw [if_pos hgm]
                  rw [← hfo] at N13
                  go_roundw
                  case rel => exact ⟨E13, rfl, k + 1, by omega, by go_num, _, B3, d3, HD', Lib.hid N13, Lib.hid B13, Lib.hid R13⟩
                  case measure => simp [intOf]; omega
                · have hg1 : (1048576 : Int) < x.g + 1 := by omega
                  go_upto_region 14 with (first
                    | (refine wpList_store_in (by rfl) _ _ (by rfl) g p (by rfl) (bare (0)) (by rfl) nsk hN.out hpl ?_
                       intro w10 N10 O10
                       have B10 := O10.bx hB.out (by omega)
                       have hR10 := hR.out.only O10 (.inr rfl)
                       have u0 : w10.cell? ⟨b, 0, none⟩ = some (.slice (some ⟨g, 0, none⟩) n' c2) := B10.cell 0
                       have u1 : w10.cell? ⟨b, 1, none⟩ = some (.slice B2 (m' + k : Nat) d2) := B10.cell 1
                       have hs10 := O10.size
                       have HO10 := Lib.hid O10))
                  go_wp2_with
                    (at_builtin
                     refine wpList_append_b _ rfl (.tmp 80) (.tmp 82) _ rfl w7.heap.size b g 3 i1 _ 1 8 Try.underlying23 hi1 hy0 hy1 hy2 rfl (by omega) (.slice B2 (m' + k : Nat) d2) (m' + k) (Ks .i64 (fs' ++ ps'.take k)) rfl (hR10.to ((Ext.refl _).new _)) (some ⟨w10.heap.size, 0, none⟩) 1 1 [.int .i64 (p : Int)] rfl (Rd.lit w10 #[.int .i64 (p : Int)] 3 1 rfl) (by simp [Value.oneCell']) (by omega) (by simp only [maxLen]; omega) (by omega) (by rw [sz_alloc]; omega) (by rw [sz_alloc]; omega) (by rw [sz_alloc]; omega) ?_
                     intro B3 d3 w12 r hR12 hgr hrb hrg hrk
                     have B12 := (B10.alloc _).grown hgr hrb
                     have u0 : w12.cell? ⟨b, 0, none⟩ = some (.slice (some ⟨g, 0, none⟩) n' c2) := B12.cell 0
                     have u1 : w12.cell? ⟨b, 1, none⟩ = some (.slice B2 (m' + k : Nat) d2) := B12.cell 1
                     have u2 : w12.frozen? ⟨b, 1, none⟩ = false := B12.free 1)
                  have O13 := (Only.refl b w12).set 1 (.slice B3 (m' + k + 1 : Nat) d3)
                  have E10 : Ext w7 w10 := HO10.out.new HX9.out hg7
                  have E12 : Ext w7 w12 := Below.grown (E10.new _) hgr (by rw [sz_alloc]; omega) hrk
                  have E13 := O13.new E12 hb7
                  have N13 := ((N10.to ((Ext.refl _).new _)).grown hgr hrg).only O13 (by omega)
                  have B13 := B12.set (j := 1) (by simp) (.slice B3 (m' + k + 1 : Nat) d3)
                  have R13 := hR12.only O13 (.inl rfl)
                  have hKs : Ks .i64 (fs' ++ ps'.take k) ++ [.int .i64 (p : Int)] = Ks .i64 (fs' ++ ps'.take (k + 1)) := by
                    rw [List.take_add_one, HY.out]
                    simp [Ks]
                  rw [hKs] at R13
                  have hfo : foll x.g = 0 := by unfold foll; rw [if_neg hgm]
                  rw [← hfo] at N13
                  go_roundw
                  case rel => exact ⟨E13, rfl, k + 1, by omega, by go_num, _, B3, d3, HD', Lib.hid N13, Lib.hid B13, Lib.hid R13⟩
                  case measure => simp [intOf]; omega
            · have hT : ps'.take k = ps' := List.take_of_length_le (by have := HPL.out; omega)
              have hkq : k = q' := by omega
              subst hkq
              rw [hT] at hD hR
              obtain ⟨he, g', c', B', d', HB9, HA9⟩ : e5 = 0 ∧ ∃ g' c' B' d', Hid (Bx w9 b5 #[.slice (some ⟨g', 0, none⟩) n' c', .slice B' (m' + k : Nat) d']) ∧ Hid (Ar w9 (some ⟨g', 0, none⟩) n' B' (m' + k) nsk (fs' ++ ps')) := by
                rcases (HO7.out.to HX9.out) with ⟨h1, h2, h3⟩ | ⟨h1, h2, nsd, h3, g', c', B', d', h4, h5⟩
                · rcases h2 with h2 | h2
                  · exact absurd HMAY.out h2
                  · rw [hD.out] at h2; cases h2
                · rw [hD.out] at h3
                  injection h3 with h3
                  subst h3
                  exact ⟨h1, g', c', B', d', Lib.hid h4, Lib.hid h5⟩
              subst he
              have HAW := Lib.hid (show Ar w9 (some ⟨g, 0, none⟩) n' B2 (m' + k) nsk (fs' ++ ps') from ⟨hN.out.rd HLK.out, hR.out.rd, drops_ok hD.out HOK.out⟩)
              have HAl := Lib.hid (alive4 w9)
              have hDM := Lib.hid (drops_may HMAY.out hD.out)
              clear hT
              go_wp2_with fail
              refine HAl.out.mono ?_; rintro e w10 ⟨rfl, hx10⟩
              have c0 : w10.cell? ⟨b5, 0, none⟩ = some (.slice (some ⟨g', 0, none⟩) n' c') := (HB9.out.to hx10).cell 0
              have c1 : w10.cell? ⟨b5, 1, none⟩ = some (.slice B' (m' + k : Nat) d') := (HB9.out.to hx10).cell 1
              have u0 : w10.cell? ⟨b, 0, none⟩ = some (.slice (some ⟨g, 0, none⟩) n' c2) := (hB.out.to hx10).cell 0
              have u1 : w10.cell? ⟨b, 1, none⟩ = some (.slice B2 (m' + k : Nat) d2) := (hB.out.to hx10).cell 1
              have HLi := Lib.hid (like_is (some ⟨g', 0, none⟩) B' (some ⟨g, 0, none⟩) B2 n' (m' + k) c' d' n' (m' + k) c2 d2 nsk nsk (fs' ++ ps') (fs' ++ ps') w10 (HA9.out.to hx10) (HAW.out.to hx10) (by omega) (by omega) true (by simp))
              have HX10 := Lib.hid hx10
              clear hx10
              go_wp2_with fail
              refine HLi.out.mono ?_; rintro e w11 ⟨rfl, hx11⟩
              have v0 : w11.cell? ⟨b5, 0, none⟩ = some (.slice (some ⟨g', 0, none⟩) n' c') := (HB9.out.to (HX10.out.step hx11)).cell 0
              have v1 : w11.cell? ⟨b5, 1, none⟩ = some (.slice B' (m' + k : Nat) d') := (HB9.out.to (HX10.out.step hx11)).cell 1
              have HRi := Lib.hid (arRight_is (some ⟨g', 0, none⟩) B' n' (m' + k) c' d' nsk (fs' ++ ps') w11 (HA9.out.to (HX10.out.step hx11)) (by omega) (by omega) true (by simp [hDM.out]))
              have HX11 := Lib.hid (HX10.out.step hx11)
              clear hx11
              go_wp2_with fail
              refine HRi.out.mono ?_; rintro e w12 ⟨rfl, hx12⟩
              have HX12 := Lib.hid (HX11.out.step hx12)
              clear hx12
              go_wp2_with fail
              go_ret
              exact ⟨rfl, HX7.out.step (HX9.out.step HX12.out)⟩

theorem ArenaDrops_walk (w : World) (A B : Option Addr) (n m c d : Nat) (ns : List Nd) (fs : List Int) (h : Ar w A n B m ns fs) (hn : n ≤ c) (hm : m ≤ d) (hc : c ≤ maxLen) (hd : d ≤ maxLen) (_ : ∀ z ∈ fs, (Lit.int .i64 z).wf = true)
    (C : Option Addr) (q r : Nat) (ps : List Int) (hp : Rd w 1 C q (Ks .i64 ps)) (hq : q ≤ r) (hr : r ≤ maxLen) (_ : ∀ z ∈ ps, (Lit.int .i64 z).wf = true) :
    Calls Try.prog 4 #[.agg #[.slice A n c, .slice B m d], .slice C q r] w fun e w' => e = .returned (.bool true) ∧ Ext w w' :=
  drops_walk A B C n m q c d r ns fs ps w h hn hm hc hd hp hq hr

end Go.Proofs.Ytmfpgbiicncpcaa
