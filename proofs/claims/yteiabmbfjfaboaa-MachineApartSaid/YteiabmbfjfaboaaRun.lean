/-
  Contracts of package machine: copies, Run.
-/
import Derived.Test.YteiabmbfjfaboaaCopies
import Derived.Laws.IdiomCopy
import Derived.Test.YteiabmbfjfaboaaOpen
set_option linter.unusedVariables false
set_option linter.unusedSimpArgs false
namespace Go.Proofs.Yteiabmbfjfaboaa
open Go.RowKit

theorem pick_at (s : List Int × List Pc) (i : Nat) (p : Pc) (h : s.2[i]? = some p) : pick s (i : Int) = ((stp s.1 p).1, s.2.set i (stp s.1 p).2) := by
  unfold pick
  rw [if_pos (Int.natCast_nonneg i), Int.toNat_natCast, h]
theorem Only.sets {g : Nat} (vs : List Value) : ∀ (o : Nat) {W W' : World}, Only g W W' → Only g W (W'.setCells g o vs) := by
  induction vs with
  | nil => intro o W W' h; exact h
  | cons v vs ih => intro o W W' h; exact ih (o + 1) (h.set o v)
/-- A whole place of a row turned. -/
theorem OwnP.puts {W : World} {g : Nat} {vs : List Pv} (h : OwnP W g vs) {i : Nat} (hi : i < vs.length) (u : Pv) (hp : Prg W u.A u.p.prog) (hne : ∀ q, u.A = some q → 0 < u.p.prog.length → q.block ≠ g) :
    OwnP (W.setCells g (i * 8) u.cells) g (vs.set i u) := by
  have hin := World.cell?_setCells_in g u.cells (i * 8) W (fun j hj => by
    have hj8 : j < 8 := by rwa [Pv.cells_length] at hj
    have h8 : j < vs[i].cells.length := by rw [Pv.cells_length]; exact hj8
    exact Option.isSome_iff_exists.2 ⟨_, (h.cell i vs[i] (List.getElem?_eq_getElem hi) j hj8).trans (List.getElem?_eq_getElem h8)⟩)
  refine h.turn ((Only.refl g W).sets _ _) (fun j => by rw [World.frozen?_setCells]; exact h.free j) (fun k v hv j hj => ?_) (fun v hv => ?_)
  · by_cases e : i = k
    · subst e
      rw [List.getElem?_set_self hi] at hv
      obtain rfl : u = v := Option.some.inj hv
      have h8 : j < u.cells.length := by rw [Pv.cells_length]; exact hj
      rw [hin j h8, List.getElem?_eq_getElem h8]
    · rw [List.getElem?_set_ne e] at hv
      rw [World.cell?_setCells_out g _ _ _ _ (fun _ _ => by simp [Pv.cells]; omega)]
      exact h.cell k v hv j hj
  · rcases List.mem_or_eq_of_mem_set hv with h' | h'
    · exact h.prg v h'
    · subst h'
      exact ⟨hp, hne⟩

/-- The programs of these processes lie in blocks from base on. -/
def Fresh (base : Nat) (vs : List Pv) : Prop := ∀ v ∈ vs, ∀ q, v.A = some q → base ≤ q.block

/-- A slice value with address B is a row of the call's own that shows these processes. -/
def OwnS (W : World) (base : Nat) (B : Option Addr) (vs : List Pv) : Prop := vs = [] ∨ ∃ g, B = some ⟨g, 0, none⟩ ∧ base ≤ g ∧ OwnP W g vs
theorem OwnS.to {W W' : World} {base : Nat} {B : Option Addr} {vs : List Pv} (h : OwnS W base B vs) (hx : Ext W W') : OwnS W' base B vs := by
  rcases h with h | ⟨g, h1, h2, h3⟩
  · exact .inl h
  · exact .inr ⟨g, h1, h2, h3.to hx⟩
theorem OwnS.row {W : World} {base : Nat} {B : Option Addr} {vs : List Pv} (h : OwnS W base B vs) : Row W B vs := by
  rcases h with rfl | ⟨g, rfl, h2, h3⟩
  · exact ⟨Rd.nil _ _ _, by simp⟩
  · exact h3.row

set_option maxHeartbeats 800000 in
theorem clone_none (c : Nat) (w : World) :
    Calls Try.prog 29 #[.slice none 0 c] w fun e w' => ∃ A' c', e = .returned (.slice A' 0 c') ∧ Ext w w' := by
  have hq := fun (w : World) => Lib.run_eql_slice_nil (P := Try.prog) w 34 _ none 0 c 0 0 Try.underlying34
  go_enter Try.func29, Try.ntmps29
  go_wp2_with fail
  go_ret
  exact ⟨_, _, rfl, Ext.refl w⟩

set_option maxHeartbeats 2000000 in
theorem copies_none (A : Option Addr) (c : Nat) (w : World) :
    Calls Try.prog 25 #[.slice A 0 c] w fun e w' => ∃ A' c', e = .returned (.slice A' 0 c') ∧ Ext w w' := by
  have H : Hid (∀ W, Ext w W → Calls Try.prog 29 #[.slice A 0 c] W fun e w' => ∃ A' c', e = .returned (.slice A' 0 c') ∧ Ext W w') := by
    intro W hW
    cases A with
    | none => exact clone_none c W
    | some ad =>
      refine (clone_procs ad 0 c [] W (Rd.nil _ _ _) (by omega)).mono ?_
      rintro e w' ⟨v, rfl, hown, hx⟩
      obtain ⟨A', c', rfl⟩ := own_slice hown
      exact ⟨A', c', rfl, hx⟩
  go_enter Try.func25, Try.ntmps25
  go_wp2_with fail
  refine (H.out _ (Ext.refl w)).mono ?_; rintro e w1 ⟨A1, c1, rfl, hx1⟩
  go_wp2_with fail
  go_loopw [8] (fun j wr => Ext w wr ∧ j = .int .i64 0) (fun j _ => 0)
  case atStart => exact ⟨hx1, rfl⟩
  case round =>
    obtain ⟨hx, rfl⟩ := hrel
    go_wp2_with fail
    go_ret
    exact ⟨_, _, rfl, hx⟩

set_option maxHeartbeats 2000000 in
theorem copies_some (A : Option Addr) (n c : Nat) (vs : List Pv) (w : World) (h : Row w A vs) (hn : vs.length = n) (h8 : n ≤ 8) (h0 : 0 < n) (hl : ∀ v ∈ vs, 0 < v.p.prog.length ∧ v.p.prog.length ≤ 64) :
    Calls Try.prog 25 #[.slice A n c] w fun e w' => ∃ g c' vs', e = .returned (.slice (some ⟨g, 0, none⟩) n c') ∧ w.heap.size ≤ g ∧ OwnP w' g vs' ∧ vs'.map (·.p) = vs.map (·.p) ∧ Fresh w.heap.size vs' ∧ Ext w w' := by
  obtain ⟨ad, rfl⟩ := h.1.some_ (by omega) (by omega)
  have hr := h.1
  rw [hn] at hr
  have HL := Lib.hid hl
  clear hl
  go_enter Try.func25, Try.ntmps25
  go_wp2_with fail
  refine (clone_procs ad n c vs _ hr (by omega)).mono ?_; rintro e w1 ⟨v1, rfl, hown, hx1⟩
  obtain ⟨g, cap, rfl, hb, hlt⟩ := hown.form h0
  have hO : OwnP w1 g vs := ⟨hlt, fun i v hv j hj => by
    have hi := (List.getElem?_eq_some_iff.1 hv).1
    rw [hown.cellAt _ (by omega)]
    exact flat_get Pv.cells_length vs i j v hv hj, hown.frozenAt, fun v hv => ⟨(h.2 v hv).to hx1, fun q hq _ => by
      have hl := HL.out v hv
      have hp := h.2 v hv
      obtain ⟨q', hq', hc⟩ := hp.2 0 _ (List.getElem?_eq_getElem (by rw [flat_length Ins.cells_length]; omega))
      rw [hq] at hq'
      injection hq' with hq'
      subst hq'
      have := World.block_lt_of_cell? w _ hc
      rw [addr_block] at this
      omega⟩⟩
  clear hown
  go_wp2_with fail
  go_loopw [8] (fun j wr => Ext w wr ∧ ∃ k : Nat, k ≤ n ∧ j = .int .i64 k ∧ ∃ vs' : List Pv, OwnP wr g vs' ∧ vs'.length = n ∧ Hid (vs'.map (·.p) = vs.map (·.p)) ∧ Hid (Fresh w.heap.size (vs'.take k))) (fun j _ => n - (intOf j).toNat)
  case atStart => exact ⟨hx1, 0, Nat.zero_le _, rfl, vs, hO, hn, rfl, fun v hv => by simp at hv⟩
  case round =>
    obtain ⟨hx, k, hk, rfl, vs', hO', hn', hmap, hfr⟩ := hrel
    by_cases hlt' : k < n
    · obtain ⟨v, hv⟩ : ∃ v, vs'[k]? = some v := ⟨_, List.getElem?_eq_getElem (by omega)⟩
      have hl : 0 < v.p.prog.length ∧ v.p.prog.length ≤ 64 := by
        have h1 : v.p ∈ vs'.map (·.p) := List.mem_map.2 ⟨v, List.mem_of_getElem? hv, rfl⟩
        rw [hmap.out] at h1
        obtain ⟨u, hu, he⟩ := List.mem_map.1 h1
        rw [← he]
        exact HL.out u hu
      obtain ⟨g0, _⟩ := hO'.at hv
      have HV := Lib.hid hv
      clear hv
      go_wp2_with fail
      refine (clone_instr v.A v.c v.p.prog _ (hO'.prg v (List.mem_of_getElem? HV.out)).1 (by omega) hl.1).mono ?_; rintro e w2 ⟨A2, c2, rfl, hp2, hx2, hf2⟩
      have hg := hO'.lt
      replace hO' := hO'.to hx2
      have g1 := (hO'.at HV.out).1
      have f1 := hO'.free (k * 8)
      clear g0
      go_wp2_with fail
      go_roundw
      case rel =>
        refine ⟨(hx.step hx2).set _ hb, k + 1, by omega, by go_num, _, hO'.field HV.out A2 c2 hp2 (fun q hq => ?_), by simp [hn'], ?_, ?_⟩
        · have h1 := hf2 q hq
          omega
        · show List.map _ _ = _
          rw [List.map_set, hmap.out.symm]
          apply List.ext_getElem?
          intro i
          by_cases e : k = i
          · subst e
            rw [List.getElem?_set_self (by simp; omega), List.getElem?_map, HV.out]
            rfl
          · rw [List.getElem?_set_ne e]
        · show Fresh _ _
          intro u hu q hq
          obtain ⟨i, hi⟩ := List.getElem?_of_mem hu
          rw [List.getElem?_take] at hi
          split at hi
          · rename_i hik
            by_cases e : k = i
            · subst e
              rw [List.getElem?_set_self (by omega)] at hi
              obtain rfl := Option.some.inj hi
              have h1 := hf2 q hq
              have h2 := hx.size
              omega
            · rw [List.getElem?_set_ne e] at hi
              exact hfr.out u (List.mem_of_getElem? (show (vs'.take k)[i]? = some u by rw [List.getElem?_take, if_pos (by omega)]; exact hi)) q hq
          · cases hi
      case measure => simp [intOf]; omega
    · have hfr' := hfr.out
      rw [List.take_of_length_le (by omega)] at hfr'
      have HFR := Lib.hid hfr'
      clear hfr'
      go_wp2_with fail
      go_ret
      first
        | exact ⟨g, ⟨_, rfl⟩, hb, vs', hO', hmap.out, HFR.out, hx⟩
        | exact ⟨g, _, vs', rfl, hb, hO', hmap.out, HFR.out, hx⟩

theorem copies_is (A : Option Addr) (n c : Nat) (vs : List Pv) (w : World) (h : Row w A vs) (hn : vs.length = n) (h8 : n ≤ 8) (hl : ∀ v ∈ vs, 0 < v.p.prog.length ∧ v.p.prog.length ≤ 64) :
    Calls Try.prog 25 #[.slice A n c] w fun e w' => ∃ B c' vs', e = .returned (.slice B n c') ∧ OwnS w' w.heap.size B vs' ∧ vs'.map (·.p) = vs.map (·.p) ∧ Fresh w.heap.size vs' ∧ Ext w w' := by
  by_cases h0 : 0 < n
  · exact (copies_some A n c vs w h hn h8 h0 hl).mono fun _ _ ⟨g, c', vs', he, hb, hO, hm, hf, hx⟩ => ⟨_, c', vs', he, .inr ⟨g, rfl, hb, hO⟩, hm, hf, hx⟩
  · have e0 : n = 0 := by omega
    subst e0
    have : vs = [] := List.eq_nil_of_length_eq_zero hn
    subst this
    exact (copies_none A c w).mono fun _ _ ⟨A', c', he, hx⟩ => ⟨A', c', [], he, .inl rfl, rfl, fun v hv => by simp at hv, hx⟩

set_option maxHeartbeats 2000000 in
theorem run_no (A B PA : Option Addr) (n c m d k l : Nat) (w : World) (b : Bool) (HR : Calls Try.prog 13 #[.slice B n d] w fun e w' => e = .returned (.bool b) ∧ Ext w w')
    (hno : ¬ (b = true ∧ m = 64 ∧ k ≤ 4000)) :
    Calls Try.prog 19 #[.slice A m c, .slice B n d, .slice PA k l] w fun e w' => e = .returned (.tuple #[.slice none 0 0, .slice none 0 0, .int .i64 1]) ∧ Ext w w' := by
  have H := Lib.hid HR
  clear HR
  cases b
  · go_enter Try.func19, Try.ntmps19
    go_wp2_with fail
    refine (H.out).mono ?_; rintro e w1 ⟨rfl, hx1⟩
    go_wp2_with fail
    go_ret3
    exact ⟨rfl, hx1⟩
  · by_cases hm : m = 64
    · have e1 : ((m : Int) != 64) = false := by simp; omega
      have e2 : 4000 < k := by
        by_cases hk : k ≤ 4000
        · exact absurd ⟨rfl, hm, hk⟩ hno
        · omega
      clear hno hm
      go_enter Try.func19, Try.ntmps19
      go_wp2_with fail
      refine (H.out).mono ?_; rintro e w1 ⟨rfl, hx1⟩
      go_wp2_with fail
      go_ret3
      exact ⟨rfl, hx1⟩
    · have e1 : ((m : Int) != 64) = true := by simp; omega
      clear hno hm
      go_enter Try.func19, Try.ntmps19
      go_wp2_with fail
      refine (H.out).mono ?_; rintro e w1 ⟨rfl, hx1⟩
      go_wp2_with fail
      go_ret3
      exact ⟨rfl, hx1⟩

/-- What Run answers: words and processes that show this. -/
def Ran (w : World) (n : Nat) (s : List Int × List Pc) (e : Ending) (w' : World) : Prop :=
  ∃ A' c' B' d' vs', e = .returned (.tuple #[.slice A' 64 c', .slice B' n d', .int .i64 0]) ∧ Rd w' 1 A' 64 (Us s.1) ∧ Row w' B' vs' ∧ vs'.map (·.p) = s.2 ∧ Ext w w' ∧ (∀ q, A' = some q → w.heap.size ≤ q.block) ∧ Fresh w.heap.size vs' ∧ (vs' = [] ∨ ∀ q, B' = some q → w.heap.size ≤ q.block)

set_option maxHeartbeats 4000000 in
theorem run_by (ad : Addr) (c : Nat) (ws : List Int) (B : Option Addr) (n d : Nat) (vs : List Pv) (PA : Option Addr) (m k : Nat) (picks : List Int) (w : World) (h : Rd w 1 (some ad) 64 (Us ws)) (hv : Row w B vs) (hn : vs.length = n) (h8 : n ≤ 8)
    (hm : ∀ v ∈ vs, v.p.May) (hp : Rd w 1 PA m (Ks .i64 picks)) (h4 : m ≤ 4000) (S : List Int × List Pc) (hS : S = (ws, vs.map (·.p))) :
    Calls Try.prog 19 #[.slice (some ad) 64 c, .slice B n d, .slice PA m k] w (Ran w n (runs S picks)) := by
  have HS := Lib.hid hS
  clear hS
  have HR := Lib.hid (right_is B n d vs w hv hn true (by simp [h8]; exact hm))
  have HM := Lib.hid hm
  clear hm
  have hpl : picks.length = m := by have := hp.1; simpa [Ks] using this
  go_enter Try.func19, Try.ntmps19
  go_wp2_with fail
  refine (HR.out).mono ?_; rintro e w1 ⟨rfl, hx1⟩
  go_wp2_with fail
  refine (clone_full ad 64 c ws _ (h.to hx1) (by omega) (by omega)).mono ?_; rintro e w2 ⟨ga, ca, rfl, hga, howna, hx2⟩
  have hr2 := Rd.own howna
  have hgl : ga < w2.heap.size := by
    have := World.block_lt_of_cell? w2 _ (hr2.u64 (j := 0) (by omega))
    rwa [addr_block] at this
  clear howna
  have E2 := hx1.step hx2
  go_wp2_with fail
  refine (copies_is B n d vs _ (hv.to E2) hn h8 (fun v hv => (HM.out v hv).1)).mono ?_; rintro e w3 ⟨B3, c3, vs3, rfl, hO, hmap, hfr, hx3⟩
  have hr3 := hr2.to hx3
  have E3 := E2.step hx3
  have hB : w.heap.size ≤ w2.heap.size := E2.size
  have HMAP := Lib.hid hmap
  have hs1 := hx1.size
  clear hx1 hx2 hx3 E2 hr2 hmap
  have hne : ∀ q, (some (⟨ga, 0, none⟩ : Addr)) = some q → ∀ g, B3 = some ⟨g, 0, none⟩ → w2.heap.size ≤ g → q.block ≠ g := fun q hq g _ hg => by
    injection hq with hq
    subst hq
    show ga ≠ g
    omega
  go_wp2_with fail
  go_loopw [9, 32] (fun s j wr => Ext w wr ∧ ∃ (t : Nat) (Aw : Option Addr) (cw : Nat) (vs' : List Pv), t ≤ m ∧ j = .int .i64 t ∧ s = .slice Aw 64 cw ∧ Rd wr 1 Aw 64 (Us (runs S (picks.take t)).1) ∧ OwnS wr w2.heap.size B3 vs' ∧ vs'.length = n ∧ Hid (vs'.map (·.p) = (runs S (picks.take t)).2) ∧
    (∀ q, Aw = some q → w.heap.size ≤ q.block) ∧ Fresh w.heap.size vs' ∧ ∀ q, Aw = some q → ∀ g, B3 = some ⟨g, 0, none⟩ → w2.heap.size ≤ g → q.block ≠ g) (fun _ j _ => m - (intOf j).toNat)
  case atStart =>
    refine ⟨E3, 0, _, _, vs3, Nat.zero_le _, rfl, rfl, ?_, hO, ?_, ?_, ?_, ?_, hne⟩
    · rw [HS.out]
      exact hr3
    · have := congrArg List.length HMAP.out
      simpa [hn] using this
    · show _ = _
      rw [HS.out]
      exact HMAP.out
    · intro q hq
      obtain rfl := Option.some.inj hq
      exact Nat.le_trans hs1 hga
    · intro v hv q hq
      exact Nat.le_trans hB (hfr v hv q hq)
  case round =>
    obtain ⟨hx, t, Aw, cw, vs', htm, rfl, rfl, hr, hO', hl', hmap, hfa, hfv, hne'⟩ := hrel
    by_cases hlt : t < m
    · obtain ⟨pa, rfl⟩ := hp.some_ (by omega) (by omega)
      obtain ⟨x, hxt⟩ : ∃ x, picks[t]? = some x := ⟨_, List.getElem?_eq_getElem (by omega)⟩
      have cp := hx.cellOf (hp.cells t (.int .i64 x) (by simp [Ks, hxt]))
      have HT : Hid (picks.take (t + 1) = picks.take t ++ [x]) := by
        show _ = _
        rw [List.take_add_one, hxt]
        rfl
      clear hxt
      obtain ⟨b, hb⟩ : ∃ b : Bool, b = true ↔ (0 ≤ x ∧ x < n) := by
        by_cases hq : 0 ≤ x ∧ x < n
        · exact ⟨true, by simp [hq]⟩
        · exact ⟨false, by simpa using hq⟩
      have HW := Lib.hid (fun W => within_is x n b hb W)
      go_wp2_with fail
      refine (HW.out _).mono ?_; rintro e w' ⟨rfl, rfl⟩
      cases b
      · have hb' : ¬ (0 ≤ x ∧ x < n) := fun h => by simp [h] at hb
        clear hb
        go_wp2_with fail
        go_roundw
        case rel =>
          have e : runs S (picks.take (t + 1)) = runs S (picks.take t) := by
            rw [HT.out, runs_snoc]
            unfold pick
            split
            · rename_i h0
              rw [List.getElem?_eq_none (by rw [← hmap.out]; simp; omega)]
            · rfl
          exact ⟨hx, t + 1, _, _, vs', by omega, by go_num, rfl, by rw [e]; exact hr, hO', hl', by rw [e]; exact hmap, hfa, hfv, hne'⟩
        case measure => simp [intOf]; omega
      · obtain ⟨hx0, hxn⟩ := hb.1 rfl
        clear hb
        obtain ⟨i, rfl⟩ := Int.eq_ofNat_of_zero_le hx0
        have hin : i < n := by omega
        rcases hO' with rfl | ⟨g, rfl, hgb, hO'⟩
        · simp at hl'; omega
        obtain ⟨v, hvi⟩ : ∃ v, vs'[i]? = some v := ⟨_, List.getElem?_eq_getElem (by omega)⟩
        obtain ⟨g0, g1, g2, g3, g4, g5, g6, g7⟩ := hO'.at hvi
        have HV := Lib.hid hvi
        clear hvi
        obtain ⟨ad', rfl⟩ := hr.some_ (by omega) (by omega)
        have hmay : v.p.May := by
          have h1 : v.p ∈ vs'.map (·.p) := List.mem_map.2 ⟨v, List.mem_of_getElem? HV.out, rfl⟩
          rw [hmap.out] at h1
          refine runs_may _ S ?_ _ h1
          rw [HS.out]
          intro p hp'
          obtain ⟨u, hu, rfl⟩ := List.mem_map.1 hp'
          exact HM.out u hu
        have HST := Lib.hid (fun W (hW : Ext wr W) => step_is ad' cw _ v.A v.c v.p W (hr.to hW) ((hO'.prg v (List.mem_of_getElem? HV.out)).1.to hW) hmay)
        go_wp2_with fail
        refine (HST.out _ (Ext.refl wr)).mono ?_; rintro e w4 ⟨A4, c4, rfl, hr4, hx4, hf4⟩
        clear g0 g1 g2 g3 g4 g5 g6 g7
        have hgl := hO'.lt
        replace hO' := hO'.to hx4
        obtain ⟨g0, g1, g2, g3, g4, g5, g6, g7⟩ := hO'.at HV.out
        have f0 := hO'.free
        obtain ⟨P, hP⟩ : ∃ P, P = stp (runs S (picks.take t)).1 v.p := ⟨_, rfl⟩
        rw [← hP] at hr4
        simp only [← hP]
        have hnext : runs S (picks.take (t + 1)) = (P.1, (runs S (picks.take t)).2.set i P.2) := by
          rw [HT.out, runs_snoc, hP]
          refine pick_at _ i v.p ?_
          rw [← hmap.out, List.getElem?_map, HV.out]
          rfl
        have HN := Lib.hid hnext
        have HP := Lib.hid hP
        clear hnext hP
        go_wp2_with fail
        go_roundw
        case rel =>
          have hne4 : ∀ q, A4 = some q → q.block ≠ g := fun q hq => by
            rcases hf4 q hq with h' | h'
            · exact hne' q (by rw [h']) g rfl hgb
            · omega
          refine ⟨?_, t + 1, A4, c4, vs'.set i ⟨v.A, v.c, P.2⟩, by omega, by go_num, rfl, ?_, .inr ⟨g, rfl, hgb, ?_⟩, by simp [hl'], ?_, ?_, ?_, fun q hq g' hg' _ => ?_⟩
          · repeat (first | with_reducible refine Ext.set ?_ _ (by omega))
            exact hx.step hx4
          · rw [HN.out]
            repeat (first | with_reducible refine Rd.off hne4 ?_)
            exact hr4
          · have hp' := hO'.prg v (List.mem_of_getElem? HV.out)
            exact hO'.puts (by omega) ⟨v.A, v.c, P.2⟩ (by
              show Prg _ v.A P.2.prog
              rw [HP.out, stp_prog]
              exact hp'.1) (fun q hq h0 => hp'.2 q hq (by
                have h1 : 0 < P.2.prog.length := h0
                rw [HP.out, stp_prog] at h1
                exact h1))
          · show _ = _
            rw [HN.out, List.map_set, hmap.out]
          · intro q hq
            rcases hf4 q hq with h' | h'
            · exact hfa q (by rw [h'])
            · have := hx.size
              omega
          · intro u hu q hq
            rcases List.mem_or_eq_of_mem_set hu with h' | h'
            · exact hfv u h' q hq
            · rw [h'] at hq
              exact hfv v (List.mem_of_getElem? HV.out) q hq
          · injection hg' with hg'
            injection hg' with hg'
            subst hg'
            exact hne4 q hq
        case measure => simp [intOf]; omega
    · have e : picks.take t = picks := List.take_of_length_le (by omega)
      rw [e] at hr hmap
      go_wp2_with fail
      go_ret3
      have hfb : vs' = [] ∨ ∀ q, B3 = some q → w.heap.size ≤ q.block := by
        rcases hO' with h' | ⟨g', hg1, hg2, _⟩
        · exact .inl h'
        · refine .inr (fun q hq => ?_)
          rw [hg1] at hq
          obtain rfl := Option.some.inj hq
          exact Nat.le_trans hB hg2
      exact ⟨_, _, _, _, vs', rfl, hr, hO'.row, hmap.out, hx, hfa, hfv, hfb⟩

end Go.Proofs.Yteiabmbfjfaboaa
