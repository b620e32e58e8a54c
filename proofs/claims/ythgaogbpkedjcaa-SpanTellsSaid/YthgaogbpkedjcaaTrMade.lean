/-
  Contract: a new node of a maker (made).
-/
import Derived.Test.YthgaogbpkedjcaaTrMaker
set_option linter.unusedVariables false
set_option linter.unusedSimpArgs false
namespace Go.Proofs.Ythgaogbpkedjcaa
open Go.RowKit

/-- An arena that grew by some nodes at most. -/
structure Gr (ns : List Nd) (fs : List Int) (ns' : List Nd) (fs' : List Int) (c : Nat) : Prop where
  stay : ∀ (i : Nat) (x : Nd), ns[i]? = some x → x.k ≠ 0 → ns'[i]? = some x
  len : ns'.length = ns.length
  few : fs.length ≤ fs'.length + c
  le : fs'.length ≤ fs.length
theorem Gr.refl (ns : List Nd) (fs : List Int) (c : Nat) : Gr ns fs ns fs c := ⟨fun _ _ h _ => h, rfl, by omega, Nat.le_refl _⟩
theorem Gr.trans {ns ns' ns'' : List Nd} {fs fs' fs'' : List Int} {c d : Nat} (h : Gr ns fs ns' fs' c) (k : Gr ns' fs' ns'' fs'' d) : Gr ns fs ns'' fs'' (c + d) :=
  ⟨fun i x hx hk => k.stay i x (h.stay i x hx hk) hk, k.len.trans h.len, by have := h.few; have := k.few; omega, Nat.le_trans k.le h.le⟩
theorem Gr.more {ns ns' : List Nd} {fs fs' : List Int} {c d : Nat} (h : Gr ns fs ns' fs' c) (hc : c ≤ d) : Gr ns fs ns' fs' d := ⟨h.stay, h.len, by have := h.few; omega, h.le⟩
theorem Gr.keep {ns ns' : List Nd} {fs fs' : List Int} {c : Nat} (h : Gr ns fs ns' fs' c) : ∀ r p x, Got ns r p x → Got ns' r p x :=
  fun r p x g => ⟨g.node, g.place, h.stay p x g.at_ g.kind, g.kind, g.gen⟩
theorem Gr.rep {ns ns' : List Nd} {fs fs' : List Int} {c : Nat} (h : Gr ns fs ns' fs' c) {t : T} (ht : Rep ns t) : Rep ns' t := ht.mono h.keep

/-- What a maker's call leaves: a reference, of which something is told if nothing failed. -/
def MOut (b : Nat) (ns : List Nd) (fs : List Int) (err : Int) (c : Nat) (good : List Nd → Int → Prop) (w : World) (e : Ending) (w' : World) : Prop :=
  ∃ ns' fs' err' z, e = .returned (.int .u64 z) ∧ Mk w' b ns' fs' err' ∧ Only b w w' ∧ Gr ns fs ns' fs' c ∧ RefMay z ∧ U z ∧ (err' = 0 → err = 0 ∧ good ns' z) ∧ (err' = 2 → err = 2 ∨ fs.length < c)

theorem makes_tr {g k v s r0 r1 : Int} (h0 : RefMay r0) (h1 : RefMay r1) : (trNd g k v s r0 r1).Makes :=
  ⟨by simp [trNd], by simp [trNd], ⟨by simp [trNd], by simp [trNd]⟩, ⟨by simp [trNd], by simp [trNd]⟩, fun r hr => by
    simp [trNd, Nd.kids] at hr
    rcases hr with rfl | rfl | rfl
    · exact h0
    · exact h1
    · exact .inl rfl⟩
theorem ok_tr {g k v s r0 r1 : Int} (h0 : U r0) (h1 : U r1) : (trNd g k v s r0 r1).Ok := fun r hr => by
  simp [trNd, Nd.kids] at hr
  rcases hr with rfl | rfl | rfl
  · exact h0
  · exact h1
  · exact ⟨by omega, by omega⟩

/-- Behind a node that was made. -/
theorem made_math {ns : List Nd} {fs : List Int} {m p : Nat} {x old : Nd} (hmay : ArMay ns fs) (hm : fs.length = m + 1) (hp : fs[m]? = some (p : Int)) (hold : ns[p]? = some old) (hk : old.k = 0) (hx : x.Makes) :
    Gr ns fs (ns.set p (x.gen old.g)) (fs.take m) 1 ∧ Got (ns.set p (x.gen old.g)) (65536 * old.g + p + 1) p (x.gen old.g) ∧ RefMay (65536 * old.g + p + 1) ∧ U (65536 * old.g + p + 1) := by
  have hpn := (List.getElem?_eq_some_iff.1 hold).1
  have hle := hmay.le
  have hg := (hmay.fits old (List.mem_of_getElem? hold)).1
  obtain ⟨g0, g1⟩ := hg
  have hnode : Node (65536 * old.g + p + 1) := ⟨by omega, by omega, by omega⟩
  refine ⟨⟨fun i y hy hyk => ?_, by simp, by rw [List.length_take]; omega, by rw [List.length_take]; omega⟩, ⟨hnode, by omega, ?_, ?_, ?_⟩, .inr hnode, ⟨by omega, by omega⟩⟩
  · by_cases e : p = i
    · subst e
      rw [hold] at hy
      injection hy with hy
      subst hy
      exact absurd hk hyk
    · rw [List.getElem?_set_ne e]
      exact hy
  · rw [List.getElem?_set_self hpn]
  · have := hx.1
    show x.k ≠ 0
    omega
  · show old.g = _
    omega

def MadeB (w : World) (n m : Nat) (nz : List Nd) (fz : List Int) (z : Int) (e : Ending) (w' : World) : Prop :=
  ∃ g c B, e = .returned (.tuple #[.agg #[.slice (some ⟨g, 0, none⟩) n c, .slice B m m], .int .u64 z, .int .i64 0]) ∧ Ar w' (some ⟨g, 0, none⟩) n B m nz fz ∧ Ext w w' ∧ FrA w g B
theorem gen_world {w W : World} {P : World → Prop} (h : Ext w W) (k : ∀ wq, Ext w wq → P wq) : P W := k W h
/-- .. and an arena, and a variable, in it. -/
theorem gen_world2 {w W : World} {A B : Option Addr} {n m q : Nat} {cs : Array Value} {ns : List Nd} {fs : List Int} {P : World → Prop} (h : Ext w W) (ha : Ar W A n B m ns fs) (hb : Bx W q cs) (k : ∀ wq, Ext w wq → Ar wq A n B m ns fs → Bx wq q cs → P wq) : P W := k W h ha hb

set_option maxHeartbeats 6400000 in
set_option maxRecDepth 100000 in
theorem made_is (b : Nat) (ns : List Nd) (fs : List Int) (err key v k0 k1 : Int) (K : Option Addr) (cK : Nat) (w : World) (h : Mk w b ns fs err) (hK : Rd w 1 K 2 (Us [k0, k1])) (hR0 : RefMay k0) (hR1 : RefMay k1) (hU0 : U k0) (hU1 : U k1) :
    Calls Try.prog 41 #[.pointer (some ⟨b, 0, none⟩), .int .i64 key, .int .i64 v, .slice K 2 cK] w
      (MOut b ns fs err 1 (fun ns' z => ∃ p g, Got ns' z p (trNd g key v (sumI (nodeF ns k0).s (nodeF ns k1).s) k0 k1)) w) := by
  obtain ⟨A, n, c, B, m, d, hb, ha, hA, hB⟩ := h.box
  have hl := h.len
  have hln := ha.len
  have hlf := ha.lenF
  obtain ⟨S, hS⟩ : ∃ S, S = sumI (nodeF ns k0).s (nodeF ns k1).s := ⟨_, rfl⟩
  have HW := Lib.hid (fun W (hW : Ext w W) => nodeWith_is A B n c m d ns key v 0 k0 k1 K cK W (ha.nodes.to hW) (hK.to hW) hU0 hU1)
  rw [← hS] at HW ⊢
  have c0 : w.cell? ⟨b, 0, none⟩ = some (.slice A n c) := hb.cell 0
  have c1 : w.cell? ⟨b, 1, none⟩ = some (.slice B m d) := hb.cell 1
  have HMay := Lib.hid h.may
  have HErr := Lib.hid h.err
  have hmk := Lib.hid (makes_tr (g := 0) (k := key) (v := v) (s := S) hR0 hR1)
  have hok := Lib.hid (ok_tr (g := 0) (k := key) (v := v) (s := S) hU0 hU1)
  have HA := Lib.hid ha
  have HB := Lib.hid hb
  have hn1 : n ≤ 1000 := by omega
  have hAB := Lib.hid (And.intro hA hB)
  have HLT := Lib.hid hb.lt
  have HLF := Lib.hid hlf
  have HLN := Lib.hid hln
  cases m with
  | zero =>
    have hfs : fs = [] := List.eq_nil_of_length_eq_zero hlf
    subst hfs
    have HM := Lib.hid (fun W (hW : Ext w W) => make_full A B n c d ns (trNd 0 key v S k0 k1) W (ha.to hW) hn1 hok.out HMay.out hmk.out)
    clear hb ha hA hB h hl hln hlf hS hK
    go_enter Try.func41, Try.ntmps41
    go_wp2_with fail
    have HS := Lib.hid (fun W (hW : Ext w W) => show W.cell? ⟨b, 0, none⟩ = some (.slice A n c) ∧ W.cell? ⟨b, 1, none⟩ = some (.slice B (0 : Nat) d) from ⟨hW.cellOf c0, hW.cellOf c1⟩)
    go_region_held3 (fun W => W.cell? ⟨b, 0, none⟩ = some (.slice A n c) ∧ W.cell? ⟨b, 1, none⟩ = some (.slice B (0 : Nat) d)) (exact HS.out _ (by repeat (first | exact Ext.refl _ | assumption | with_reducible refine Ext.drew ?_ | with_reducible refine Ext.new ?_ _ | with_reducible refine Ext.set ?_ _ (by first | omega | simp)))) (first
      | (go_at_call 62; refine (HW.out _ ?_).mono ?_
         · repeat (first | exact Ext.refl _ | with_reducible refine Ext.drew ?_ | with_reducible refine Ext.new ?_ _)
         rintro e w2 ⟨rfl, hx2⟩
         try (have zb : Bx w2 w.heap.size #[.slice none 0 0, .slice none 0 0] := (Bx.new w.drew #[.slice none 0 0, .slice none 0 0] 25).to hx2)
         have hq2 : Ext w w2 := Ext.step (by repeat (first | exact Ext.refl _ | with_reducible refine Ext.drew ?_ | with_reducible refine Ext.new ?_ _)) hx2
         clear hx2)
      | (go_at_call 61; refine (HM.out _ ?_).mono ?_
         · repeat (first | exact Ext.refl _ | assumption | with_reducible refine Ext.drew ?_ | with_reducible refine Ext.new ?_ _)
         rintro e w3 ⟨rfl, hx3⟩
         try (have zb3 : Bx w3 w.heap.size #[.slice none 0 0, .slice none 0 0] := zb.to hx3)
         try (have zb3 : Bx w3 w2.heap.size #[.slice none 0 0, .slice none 0 0] := (Bx.new w2 #[.slice none 0 0, .slice none 0 0] 25).to hx3)
         try (have y0 := zb3.cell 0
              have y1 := zb3.cell 1
              have y2 := zb3.free 0
              have y3 := zb3.free 1
              simp only [List.getElem?_toArray, List.getElem?_cons_zero, List.getElem?_cons_succ] at y0 y1)
         have hge3 : w.heap.size ≤ w2.heap.size := hq2.size
         have hq3 : Ext w w3 := Ext.step (by repeat (first | exact Ext.refl _ | assumption | with_reducible refine Ext.drew ?_ | with_reducible refine Ext.new ?_ _)) hx3
         clear hx3))
    all_goals
      refine gen_world (w := w) (P := fun W => Exit.then _ _ Exit.normal _ W) ?_ ?_
      · repeat (first | exact Ext.refl _ | assumption | with_reducible refine Ext.drew ?_ | with_reducible refine Ext.new ?_ _ | with_reducible refine Ext.set ?_ _ (by first | omega | simp))
      intro wq hq
      have hbq := HB.out.to hq
      have HQ := Lib.hid hq
      clear hq
      go_wp2_with (first
        | (refine wpList_store_cell (by rfl) 32 (.tmp 34) (.tmp 32) (by rfl) b 2 (by rfl) (.int .i64 2) (by rfl) rfl (by kernel_rfl) _ hbq (by simp) ?_
           intro w9 B9 O9))
      have HF := Lib.hid (show MOut b ns [] err 1 (fun ns' z => ∃ p g, Got ns' z p (trNd g key v S k0 k1)) w (.returned (.int .u64 0)) w9 from
        ⟨ns, [], 2, 0, rfl, ⟨⟨A, n, c, B, 0, d, B9, (HA.out.to HQ.out).only O9 hAB.out.1 hAB.out.2, hAB.out.1, hAB.out.2⟩, HMay.out, .inr rfl⟩, ((Only.refl b w).ext HQ.out).trans O9, Gr.refl _ _ _, .inl rfl, U.zero, fun h => by omega, fun _ => .inr (by simp)⟩)
      clear O9 B9
      go_ret
      exact HF.out
  | succ m =>
    obtain ⟨y, hy⟩ : ∃ y, fs[m]? = some y := ⟨_, List.getElem?_eq_getElem (by omega)⟩
    obtain ⟨p, old, rfl, ho, hk, _⟩ := HMay.out.last hy
    obtain ⟨m1, m2, m3, m4⟩ := made_math HMay.out (by omega) hy ho hk hmk.out
    have hnm := make_may HMay.out (by omega) hy ho hmk.out
    have hm : ∀ W, Ext w W → Calls Try.prog 61 #[.agg #[.slice A n c, .slice B (m + 1 : Nat) d], .agg (trNd 0 key v S k0 k1).arr] W (MadeB W n m (ns.set p ((trNd 0 key v S k0 k1).gen old.g)) (fs.take m) (65536 * old.g + p + 1)) :=
      fun W hW => (make_yes A B n m c d ns fs (trNd 0 key v S k0 k1) p old W (ha.to hW) hn1 hok.out HMay.out hmk.out hy ho).mono fun e w' ⟨g, c', B', h1, h2, h3, h4⟩ => ⟨g, c', B', h1, h2, h3, h4⟩
    have m2' : ∃ p g, Got (ns.set p ((trNd 0 key v S k0 k1).gen old.g)) (65536 * old.g + p + 1) p (trNd g key v S k0 k1) := ⟨p, old.g, m2⟩
    obtain ⟨z, hz⟩ : ∃ z, z = 65536 * old.g + (p : Int) + 1 := ⟨_, rfl⟩
    have m2'' : ∃ q g, Got (ns.set p ((trNd 0 key v S k0 k1).gen old.g)) z q (trNd g key v S k0 k1) := ⟨p, old.g, by rw [hz]; exact m2⟩
    rw [← hz] at hm m3 m4
    obtain ⟨nz, hnz⟩ : ∃ nz, nz = ns.set p ((trNd 0 key v S k0 k1).gen old.g) := ⟨_, rfl⟩
    obtain ⟨fz, hfz⟩ : ∃ fz, fz = fs.take m := ⟨_, rfl⟩
    rw [← hnz, ← hfz] at hm m1 hnm
    rw [← hnz] at m2''
    have HM := Lib.hid hm
    have HG1 := Lib.hid m1
    have HG2 := Lib.hid m2''
    have HG3 := Lib.hid m3
    have HG4 := Lib.hid m4
    have HNM := Lib.hid hnm
    clear hm m2' m2'' hz hnz hfz hnm hb ha hA hB h hl hln hlf hS hK hy ho hk m1 m2 m3 m4
    go_enter Try.func41, Try.ntmps41
    go_wp2_with fail
    have HS := Lib.hid (fun W (hW : Ext w W) => show W.cell? ⟨b, 0, none⟩ = some (.slice A n c) ∧ W.cell? ⟨b, 1, none⟩ = some (.slice B (m + 1 : Nat) d) from ⟨hW.cellOf c0, hW.cellOf c1⟩)
    go_region_held3 (fun W => W.cell? ⟨b, 0, none⟩ = some (.slice A n c) ∧ W.cell? ⟨b, 1, none⟩ = some (.slice B (m + 1 : Nat) d)) (exact HS.out _ (by repeat (first | exact Ext.refl _ | assumption | with_reducible refine Ext.drew ?_ | with_reducible refine Ext.new ?_ _ | with_reducible refine Ext.set ?_ _ (by first | omega | simp)))) (first
      | (go_at_call 62; refine (HW.out _ ?_).mono ?_
         · repeat (first | exact Ext.refl _ | with_reducible refine Ext.drew ?_ | with_reducible refine Ext.new ?_ _)
         rintro e w2 ⟨rfl, hx2⟩
         try (have zb : Bx w2 w.heap.size #[.slice none 0 0, .slice none 0 0] := (Bx.new w.drew #[.slice none 0 0, .slice none 0 0] 25).to hx2)
         have hq2 : Ext w w2 := Ext.step (by repeat (first | exact Ext.refl _ | with_reducible refine Ext.drew ?_ | with_reducible refine Ext.new ?_ _)) hx2
         clear hx2)
      | (go_at_call 61; refine (HM.out _ ?_).mono ?_
         · repeat (first | exact Ext.refl _ | assumption | with_reducible refine Ext.drew ?_ | with_reducible refine Ext.new ?_ _)
         rintro e w3 ⟨g, c', B', rfl, hA3, hx3, hF3⟩
         try (have zb3 : Bx w3 w.heap.size #[.slice none 0 0, .slice none 0 0] := zb.to hx3)
         try (have zb3 : Bx w3 w2.heap.size #[.slice none 0 0, .slice none 0 0] := (Bx.new w2 #[.slice none 0 0, .slice none 0 0] 25).to hx3)
         try (have y0 := zb3.cell 0
              have y1 := zb3.cell 1
              have y2 := zb3.free 0
              have y3 := zb3.free 1
              simp only [List.getElem?_toArray, List.getElem?_cons_zero, List.getElem?_cons_succ] at y0 y1)
         have hge3 : w.heap.size ≤ w2.heap.size := hq2.size
         have hq3 : Ext w w3 := Ext.step (by repeat (first | exact Ext.refl _ | assumption | with_reducible refine Ext.drew ?_ | with_reducible refine Ext.new ?_ _)) hx3
         clear hx3))
    · refine gen_world2 (w := w) (P := fun W => Exit.then _ _ Exit.normal _ W) (A := some ⟨g, 0, none⟩) (B := B') (n := n) (m := m) (q := w3.heap.size) (cs := #[.slice (some ⟨g, 0, none⟩) n c', .slice B' m m]) ?_ (hA3.to ((Ext.refl w3).new _)) (Bx.new w3 _ _) ?_
      · repeat (first | exact Ext.refl _ | assumption | with_reducible refine Ext.drew ?_ | with_reducible refine Ext.new ?_ _ | with_reducible refine Ext.set ?_ _ (by first | omega | simp))
      intro wq hq haq hbx
      have hbq := HB.out.to hq
      have hqb : b ≠ w3.heap.size := by have := HLT.out; have := hq3.size; omega
      have q0 : wq.cell? ⟨w3.heap.size, 0, none⟩ = some (.slice (some ⟨g, 0, none⟩) n c') := hbx.cell 0
      have q1 : wq.cell? ⟨w3.heap.size, 1, none⟩ = some (.slice B' m m) := hbx.cell 1
      have HQ := Lib.hid hq
      have HAQ := Lib.hid haq
      have HNB := Lib.hid (show (∀ q, some (⟨g, 0, none⟩ : Addr) = some q → q.block ≠ b) ∧ ∀ q, B' = some q → q.block ≠ b from ⟨fun q hq' => by
        injection hq' with hq'
        subst hq'
        have h0 := HLT.out
        have h1 := hF3.1
        show g ≠ b
        first | omega | (simp at h1; omega), fun q hq' => by
        have h1 := hF3.2 q hq'
        have h0 := HLT.out
        first | omega | (simp at h1; omega)⟩)
      clear hq haq hbx hA3 hF3
      go_wp2_with (first
        | (refine wpList_store_ar (by rfl) (.tmp 38) (.tmp 36) (by rfl) b (by rfl) (.slice (some ⟨g, 0, none⟩) n c') (.slice B' m m) (by rfl) rfl rfl _ hbq (by simp) ?_
           intro w9 B9 O9))
      have HF := Lib.hid (show MOut b ns fs err 1 (fun ns' z => ∃ p g, Got ns' z p (trNd g key v S k0 k1)) w (.returned (.int .u64 z)) w9 from
        ⟨_, _, err, _, rfl, ⟨⟨_, n, c', B', m, m, B9, HAQ.out.only O9 HNB.out.1 HNB.out.2, HNB.out.1, HNB.out.2⟩, HNM.out, HErr.out⟩, ((Only.refl b w).ext HQ.out).trans O9, HG1.out, HG3.out, HG4.out, fun h => ⟨h, HG2.out⟩, fun h => .inl h⟩)
      clear O9 B9
      go_ret
      exact HF.out
    · refine gen_world2 (w := w) (P := fun W => Exit.then _ _ Exit.normal _ W) (A := some ⟨g, 0, none⟩) (B := B') (n := n) (m := m) (q := w2.heap.size) (cs := #[.slice (some ⟨g, 0, none⟩) n c', .slice B' m m]) ?_ (hA3.only (Only.two w3 _ _ _) (fun q hq' => by injection hq' with hq'; subst hq'; have := hF3.1; simp at this; show g ≠ _; omega) (fun q hq' => by have := hF3.2 q hq'; simp at this; omega)) (zb3.two _ _) ?_
      · repeat (first | exact Ext.refl _ | assumption | with_reducible refine Ext.drew ?_ | with_reducible refine Ext.new ?_ _ | with_reducible refine Ext.set ?_ _ (by first | omega | simp))
      intro wq hq haq hbx
      have hbq := HB.out.to hq
      have hqb : b ≠ w2.heap.size := by have := HLT.out; have := hq3.size; omega
      have q0 : wq.cell? ⟨w2.heap.size, 0, none⟩ = some (.slice (some ⟨g, 0, none⟩) n c') := hbx.cell 0
      have q1 : wq.cell? ⟨w2.heap.size, 1, none⟩ = some (.slice B' m m) := hbx.cell 1
      have HQ := Lib.hid hq
      have HAQ := Lib.hid haq
      have HNB := Lib.hid (show (∀ q, some (⟨g, 0, none⟩ : Addr) = some q → q.block ≠ b) ∧ ∀ q, B' = some q → q.block ≠ b from ⟨fun q hq' => by
        injection hq' with hq'
        subst hq'
        have h0 := HLT.out
        have h1 := hF3.1
        show g ≠ b
        first | omega | (simp at h1; omega), fun q hq' => by
        have h1 := hF3.2 q hq'
        have h0 := HLT.out
        first | omega | (simp at h1; omega)⟩)
      clear hq haq hbx hA3 hF3
      go_wp2_with (first
        | (refine wpList_store_ar (by rfl) (.tmp 38) (.tmp 36) (by rfl) b (by rfl) (.slice (some ⟨g, 0, none⟩) n c') (.slice B' m m) (by rfl) rfl rfl _ hbq (by simp) ?_
           intro w9 B9 O9))
      have HF := Lib.hid (show MOut b ns fs err 1 (fun ns' z => ∃ p g, Got ns' z p (trNd g key v S k0 k1)) w (.returned (.int .u64 z)) w9 from
        ⟨_, _, err, _, rfl, ⟨⟨_, n, c', B', m, m, B9, HAQ.out.only O9 HNB.out.1 HNB.out.2, HNB.out.1, HNB.out.2⟩, HNM.out, HErr.out⟩, ((Only.refl b w).ext HQ.out).trans O9, HG1.out, HG3.out, HG4.out, fun h => ⟨h, HG2.out⟩, fun h => .inl h⟩)
      clear O9 B9
      go_ret
      exact HF.out
    · refine gen_world2 (w := w) (P := fun W => Exit.then _ _ Exit.normal _ W) (A := some ⟨g, 0, none⟩) (B := B') (n := n) (m := m) (q := w.heap.size) (cs := #[.slice (some ⟨g, 0, none⟩) n c', .slice B' m m]) ?_ (hA3.only (Only.two w3 _ _ _) (fun q hq' => by injection hq' with hq'; subst hq'; have := hF3.1; have := zb.lt; show g ≠ _; omega) (fun q hq' => by have := hF3.2 q hq'; have := zb.lt; omega)) (zb3.two _ _) ?_
      · repeat (first | exact Ext.refl _ | assumption | with_reducible refine Ext.drew ?_ | with_reducible refine Ext.new ?_ _ | with_reducible refine Ext.set ?_ _ (by first | omega | simp))
      intro wq hq haq hbx
      have hbq := HB.out.to hq
      have hqb : b ≠ w.heap.size := by have := HLT.out; have := hq3.size; omega
      have q0 : wq.cell? ⟨w.heap.size, 0, none⟩ = some (.slice (some ⟨g, 0, none⟩) n c') := hbx.cell 0
      have q1 : wq.cell? ⟨w.heap.size, 1, none⟩ = some (.slice B' m m) := hbx.cell 1
      have HQ := Lib.hid hq
      have HAQ := Lib.hid haq
      have HNB := Lib.hid (show (∀ q, some (⟨g, 0, none⟩ : Addr) = some q → q.block ≠ b) ∧ ∀ q, B' = some q → q.block ≠ b from ⟨fun q hq' => by
        injection hq' with hq'
        subst hq'
        have h0 := HLT.out
        have h1 := hF3.1
        show g ≠ b
        first | omega | (simp at h1; omega), fun q hq' => by
        have h1 := hF3.2 q hq'
        have h0 := HLT.out
        first | omega | (simp at h1; omega)⟩)
      clear hq haq hbx hA3 hF3
      go_wp2_with (first
        | (refine wpList_store_ar (by rfl) (.tmp 38) (.tmp 36) (by rfl) b (by rfl) (.slice (some ⟨g, 0, none⟩) n c') (.slice B' m m) (by rfl) rfl rfl _ hbq (by simp) ?_
           intro w9 B9 O9))
      have HF := Lib.hid (show MOut b ns fs err 1 (fun ns' z => ∃ p g, Got ns' z p (trNd g key v S k0 k1)) w (.returned (.int .u64 z)) w9 from
        ⟨_, _, err, _, rfl, ⟨⟨_, n, c', B', m, m, B9, HAQ.out.only O9 HNB.out.1 HNB.out.2, HNB.out.1, HNB.out.2⟩, HNM.out, HErr.out⟩, ((Only.refl b w).ext HQ.out).trans O9, HG1.out, HG3.out, HG4.out, fun h => ⟨h, HG2.out⟩, fun h => .inl h⟩)
      clear O9 B9
      go_ret
      exact HF.out

end Go.Proofs.Ythgaogbpkedjcaa
