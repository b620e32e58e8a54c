/-
  Contracts: leavesBy of a table; IndexFunc, ContainsFunc over any closure of two variables; has, isFull.
-/
import Derived.Test.YtfoifcbaadnigaaHtLv
set_option linter.unusedVariables false
set_option linter.unusedSimpArgs false
namespace Go.Proofs.Ytfoifcbaadnigaa
open Go.RowKit

theorem rp_nodeF {ns : List Nd} {r : Int} {p : Nat} {a b c d : HT} (h : Rp ns (.trie r p a b c d)) : ∃ g, nodeF ns r = boxNd 2 g ((a.size + (b.size + (c.size + d.size)) : Nat) : Int) [a.ref, b.ref, c.ref, d.ref] := by
  obtain ⟨⟨g, hg⟩, _⟩ := h
  exact ⟨g, nodeF_got hg⟩
theorem htLv_is (A B : Option Addr) (n c m d : Nat) (ns : List Nd) (hok : ∀ x ∈ ns, x.Ok) (key : Int) : ∀ (t : HT) (lv : Nat), Rp ns t → Sh lv t → ∀ w : World, Rd w 16 A n (flat Nd.cells ns) → U t.ref →
    Calls Try.prog 33 #[.agg #[.slice A n c, .slice B m d], .int .u64 t.ref, .int .i64 key, .int .i64 lv] w (LbA (lby key t lv) w) := by
  intro t
  induction t with
  | nil =>
    intro lv _ _ w h hU
    exact htLvNil A B n c m d ns 0 key lv w hU h rfl (by rw [nodeF_zero]; rfl)
  | leaf x =>
    intro lv hR _ w h hU
    obtain ⟨g, e⟩ := Lv.nodeF hR
    exact htLvLeaf A B n c m d ns x.r key lv w hU h x rfl (by rw [e]; rfl)
  | clash r p ls =>
    intro lv hR hS w h hU
    obtain ⟨⟨g, hg⟩, hl⟩ := hR
    have e := nodeF_got hg
    refine htLvClash A B n c m d ns r key lv w hU h ls hS.2.1 hS.2.2.1 ?_ (by rw [e]; rfl) (by rw [e]; rfl)
    rw [e]
    refine List.ext_getElem (by have := hS.2.2.1; simp [Nd.kids]; omega) fun i h1 h2 => ?_
    have h6 : i < ls.length := by simpa using h2
    have h9 := hS.2.2.1
    have := box_kids 4 g (ls.length : Nat) (ls.map Lf.r) (i := i) (by omega)
    rw [ith, ith, List.getD_eq_getElem?_getD, List.getD_eq_getElem?_getD, List.getElem?_eq_getElem h2, List.getElem?_eq_getElem (by simp [Nd.kids]; omega)] at this
    simp only [Option.getD_some] at this
    rw [← this]
    simp
  | trie r p a b c' d' iha ihb ihc ihd =>
    intro lv hR hS w h hU
    obtain ⟨g, e⟩ := rp_nodeF hR
    obtain ⟨_, k1, k2, k3, k4⟩ := hR
    obtain ⟨s0, _, _, s1, s2, s3, s4⟩ := hS
    have hx := nodeF_ok hok r
    have hUk : ∀ i, U (ith (nodeF ns r).kids i) := fun i => ok_kid hx i
    have hk : (nodeF ns r).k = 2 := by rw [e]; rfl
    have e0 : ith (nodeF ns r).kids 0 = a.ref := by rw [e]; rfl
    have e1 : ith (nodeF ns r).kids 1 = b.ref := by rw [e]; rfl
    have e2 : ith (nodeF ns r).kids 2 = c'.ref := by rw [e]; rfl
    have e3 : ith (nodeF ns r).kids 3 = d'.ref := by rw [e]; rfl
    have hd := dig_rng key lv
    simp only [lby]
    by_cases h0 : dig key lv = 0
    · rw [if_pos h0]
      refine htLvTrie A B n c m d ns r key lv w hU h 0 (by omega) h0 s0 hok _ (fun W hW => ?_) hk
      rw [e0]
      exact iha (lv + 1) k1 s1 W (h.to hW) (e0 ▸ hUk 0)
    rw [if_neg h0]
    by_cases h1 : dig key lv = 1
    · rw [if_pos h1]
      refine htLvTrie A B n c m d ns r key lv w hU h 1 (by omega) h1 s0 hok _ (fun W hW => ?_) hk
      rw [e1]
      exact ihb (lv + 1) k2 s2 W (h.to hW) (e1 ▸ hUk 1)
    rw [if_neg h1]
    by_cases h2 : dig key lv = 2
    · rw [if_pos h2]
      refine htLvTrie A B n c m d ns r key lv w hU h 2 (by omega) h2 s0 hok _ (fun W hW => ?_) hk
      rw [e2]
      exact ihc (lv + 1) k3 s3 W (h.to hW) (e2 ▸ hUk 2)
    rw [if_neg h2]
    refine htLvTrie A B n c m d ns r key lv w hU h 3 (by omega) (by omega) s0 hok _ (fun W hW => ?_) hk
    rw [e3]
    exact ihd (lv + 1) k4 s4 W (h.to hW) (e3 ▸ hUk 3)

theorem rp_u {ns : List Nd} (hok : ∀ x ∈ ns, x.Ok) : ∀ {t : HT} {lv : Nat}, Rp ns t → Sh lv t → U t.ref → ∀ y ∈ t.lvs, U y.r := by
  intro t
  induction t with
  | nil => intro _ _ _ _ y hy; cases hy
  | leaf x => intro _ _ _ hU y hy; simp [HT.lvs] at hy; rw [hy]; exact hU
  | clash r p ls =>
    intro lv hR hS _ y hy
    change y ∈ ls at hy
    obtain ⟨⟨g, hg⟩, _⟩ := hR
    have hx := hok _ (List.mem_of_getElem? hg.at_)
    obtain ⟨i, hi⟩ := List.getElem?_of_mem hy
    have hil := (List.getElem?_eq_some_iff.1 hi).1
    have h9 := hS.2.2.1
    have := ok_kid hx i
    rw [box_kids _ _ _ _ (by omega)] at this
    simp only [ith, List.getD_eq_getElem?_getD, List.getElem?_map, hi] at this
    exact this
  | trie r p a b c d iha ihb ihc ihd =>
    intro lv hR hS _ y hy
    obtain ⟨⟨g, hg⟩, h1, h2, h3, h4⟩ := hR
    obtain ⟨_, _, _, s0, s1, s2, s3⟩ := hS
    have hx := hok _ (List.mem_of_getElem? hg.at_)
    simp only [HT.lvs, List.mem_append] at hy
    rcases hy with hy | hy | hy | hy
    · exact iha h1 s0 (ok_kid hx 0) y hy
    · exact ihb h2 s1 (ok_kid hx 1) y hy
    · exact ihc h3 s2 (ok_kid hx 2) y hy
    · exact ihd h4 s3 (ok_kid hx 3) y hy
/-- What IndexFunc tells of a closure that tells p. -/
def IdxA (zs : List Int) (p : Int → Bool) (w : World) (e : Ending) (w' : World) : Prop :=
  (∃ j : Int, e = .returned (.int .i64 j) ∧ ((j = -1 ∧ ∀ i, i < zs.length → p (ith zs i) = false) ∨ (∃ k : Nat, k < zs.length ∧ j = k ∧ p (ith zs k) = true ∧ ∀ i, i < k → p (ith zs i) = false))) ∧ Ext w w'
/-- A closure of two variables that tells p, in whatever later world. -/
def Tells (g : FuncId) (u v : Value) (p : Int → Bool) (zs : List Int) (w : World) : Prop :=
  ∀ i, i < zs.length → ∀ W, Ext w W → Calls Try.prog g #[.int .u64 (ith zs i), u, v] W fun e w' => e = .returned (.bool (p (ith zs i))) ∧ Ext W w'

set_option maxHeartbeats 2000000 in
set_option maxRecDepth 100000 in
theorem htIndex_is (g : FuncId) (eg : ∀ args w, (callFunc g args).run Try.prog w = .ok (.enter g args) w) (u v : Value) (S : Option Addr) (n c : Nat) (zs : List Int) (p : Int → Bool) (w : World) (h : Rd w 1 S n (Us zs)) (hn : n ≤ 1000) (hc : Tells g u v p zs w) :
    Calls Try.prog 57 #[.slice S n c, .func (.func g) #[] #[u, v]] w (IdxA zs p w) := by
  have hz := h.u64len
  have HH := Lib.hid h
  have HZ := Lib.hid hz
  have HC := Lib.hid hc
  clear h hc hz
  go_enter Try.func57, Try.ntmps57
  go_wp2_with fail
  go_loopw [5, 8] (fun _ j wr => Hid (Ext w wr) ∧ ∃ k : Nat, k ≤ n ∧ j = .int .i64 k ∧ Hid (∀ i, i < k → p (ith zs i) = false)) (fun _ j _ => n - (intOf j).toNat)
  case atStart => exact ⟨Lib.hid (Ext.refl _), 0, by omega, rfl, Lib.hid (fun i hi => by omega)⟩
  case round =>
    obtain ⟨hx, k, hk, rfl, hP⟩ := hrel
    rename World => w5
    by_cases hkn : k < n
    · obtain ⟨ad, rfl⟩ := HH.out.some_ (by omega) (by omega)
      have c0 : w5.cell? (ad.add k) = some (.int .u64 (ith zs k)) := hx.out.cellOf (HH.out.u64 hkn)
      obtain ⟨z, hz⟩ : ∃ z, z = ith zs k := ⟨_, rfl⟩
      have HCK := Lib.hid (HC.out k (by rw [HZ.out]; exact hkn) w5 hx.out)
      rw [← hz] at c0 HCK
      obtain ⟨b, hb⟩ : ∃ b, b = p z := ⟨_, rfl⟩
      rw [← hb] at HCK
      have HB := Lib.hid (show b = p (ith zs k) by rw [hb, hz])
      have hX5 := hx
      clear hx hz hb
      have hnk : ¬ n ≤ k := by omega
      go_wp2_with fail
      refine HCK.out.mono ?_; rintro e w6 ⟨rfl, hx6⟩
      have X6 := Lib.hid (hX5.out.step hx6)
      clear hx6
      cases b with
      | true =>
        go_wp2_with fail
        go_ret
        exact ⟨⟨k, rfl, .inr ⟨k, by rw [HZ.out]; exact hkn, rfl, HB.out.symm, hP.out⟩⟩, X6.out⟩
      | false =>
        go_wp2_with fail
        refine ⟨⟨X6, k + 1, by omega, rfl, Lib.hid (fun i hi => ?_)⟩, by simp [intOf]; omega⟩
        rcases (by omega : i < k ∨ i = k) with h | rfl
        · exact hP.out i h
        · exact HB.out.symm
    · obtain rfl : k = n := by omega
      go_wp2_with fail
      go_ret
      exact ⟨⟨-1, rfl, .inl ⟨rfl, fun i hi => hP.out i (by rw [HZ.out] at hi; exact hi)⟩⟩, hx.out⟩

set_option maxHeartbeats 1000000 in
theorem htContains_is (g : FuncId) (eg : ∀ args w, (callFunc g args).run Try.prog w = .ok (.enter g args) w) (u v : Value) (S : Option Addr) (n c : Nat) (zs : List Int) (p : Int → Bool) (w : World) (h : Rd w 1 S n (Us zs)) (hn : n ≤ 1000) (hc : Tells g u v p zs w) :
    Calls Try.prog 38 #[.slice S n c, .func (.func g) #[] #[u, v]] w fun e w' => e = .returned (.bool (zs.any p)) ∧ Ext w w' := by
  have HI := Lib.hid (htIndex_is g eg u v S n c zs p w h hn hc)
  have hz := h.u64len
  clear h hc
  go_enter Try.func38, Try.ntmps38
  go_wp2_with (go_at_call 57; refine HI.out.mono ?_; rintro e w2 ⟨⟨j, rfl, hj⟩, hx2⟩)
  go_ret
  refine ⟨?_, hx2⟩
  rcases hj with ⟨rfl, ha⟩ | ⟨k, hk, rfl, hp, _⟩
  · have : zs.any p = false := by
      rw [List.any_eq_false]
      intro x hx
      obtain ⟨i, hi⟩ := List.getElem?_of_mem hx
      have hil := (List.getElem?_eq_some_iff.1 hi).1
      have := ha i hil
      rw [ith_of zs hil] at hi
      injection hi with hi
      rw [← hi, this]
      simp
    rw [this]
    rfl
  · have : zs.any p = true := List.any_eq_true.2 ⟨ith zs k, List.mem_of_getElem? (ith_of zs hk), hp⟩
    rw [this]
    simp

set_option maxHeartbeats 1000000 in
theorem htHas1_is (A B : Option Addr) (n c m d : Nat) (ns : List Nd) (key z : Int) (ba bk : Nat) (w : World) (hA : Bx w ba #[.slice A n c, .slice B m d]) (hK : Bx w bk #[.int .i64 key]) (h : Rd w 16 A n (flat Nd.cells ns)) (hU : U z) :
    Calls Try.prog 39 #[.int .u64 z, .pointer (some ⟨ba, 0, none⟩), .pointer (some ⟨bk, 0, none⟩)] w fun e w' => e = .returned (.bool ((nodeF ns z).n == key)) ∧ Ext w w' := by
  have HN := Lib.hid (fun W (hW : Ext w W) => htKey_is A B n c m d ns z W hU.1 hU.2 (h.to hW))
  generalize (nodeF ns z).n = k at HN ⊢
  have s0 := fun q : Later w => (hA.to q.ext).cell 0
  have s1 := fun q : Later w => (hA.to q.ext).cell 1
  have s2 := fun q : Later w => (hK.to q.ext).cell 0
  simp only [List.getElem?_toArray, List.getElem?_cons_zero, List.getElem?_cons_succ] at s0 s1 s2
  clear hA hK h
  go_enter Try.func39, Try.ntmps39
  go_wp2_with fail
  refine wp_region_later w (Ext.refl _) (by kernel_rfl) (by kernel_rfl) ?_
  repeat (go_big_quiet_step (first | (go_at_call 40; exact later_call (fun W hW => HN.out W hW))))
  refine wpQuiet_nil ?_
  rintro _ ⟨q, rfl⟩
  go_wp2_with fail
  go_ret
  exact ⟨rfl, q.ext⟩
/-- Leaves with a key. -/
def hasL (key : Int) (l : List Lf) : Bool := l.any (fun y => y.k == key)
theorem any_leaves {ns : List Nd} {key : Int} {l : List Lf} (h : ∀ y ∈ l, Lv ns y) : (l.map Lf.r).any (fun z => (nodeF ns z).n == key) = hasL key l := by
  unfold hasL
  rw [List.any_map]
  induction l with
  | nil => rfl
  | cons x l ih =>
    obtain ⟨g, e⟩ := (h x (by simp)).nodeF
    simp only [List.any_cons, Function.comp_apply, e, leafNd]
    rw [ih (fun y hy => h y (by simp [hy]))]
theorem lby_lvs {key : Int} : ∀ {t : HT} {lv : Nat} {y : Lf}, y ∈ lby key t lv → y ∈ t.lvs := by
  intro t
  induction t with
  | nil => intro lv y h; cases h
  | leaf x => intro lv y h; exact h
  | clash r p ls => intro lv y h; exact h
  | trie r p a b c d iha ihb ihc ihd =>
    intro lv y h
    simp only [lby] at h
    simp only [HT.lvs, List.mem_append]
    split at h
    · exact .inl (iha h)
    split at h
    · exact .inr (.inl (ihb h))
    split at h
    · exact .inr (.inr (.inl (ihc h)))
    · exact .inr (.inr (.inr (ihd h)))
theorem rp_lvs {ns : List Nd} : ∀ {t : HT} {y : Lf}, Rp ns t → y ∈ t.lvs → Lv ns y := by
  intro t
  induction t with
  | nil => intro y _ h; cases h
  | leaf x => intro y h hy; simp [HT.lvs] at hy; rw [hy]; exact h
  | clash r p ls => intro y h hy; exact h.2 y hy
  | trie r p a b c d iha ihb ihc ihd =>
    rintro y ⟨_, h1, h2, h3, h4⟩ hy
    simp only [HT.lvs, List.mem_append] at hy
    rcases hy with hy | hy | hy | hy
    · exact iha h1 hy
    · exact ihb h2 hy
    · exact ihc h3 hy
    · exact ihd h4 hy
/-- A key's leaves are among those to which its digits lead. -/
theorem lby_key {key : Int} : ∀ {t : HT} {lv : Nat} {y : Lf}, Sh lv t → y ∈ t.lvs → y.k = key → y ∈ lby key t lv := by
  intro t
  induction t with
  | nil => intro lv y _ h; cases h
  | leaf x => intro lv y _ h _; exact h
  | clash r p ls => intro lv y _ h _; exact h
  | trie r p a b c d iha ihb ihc ihd =>
    rintro lv y ⟨_, _, ⟨d0, d1, d2, d3⟩, s0, s1, s2, s3⟩ hy hk
    simp only [HT.lvs, List.mem_append] at hy
    simp only [lby]
    rcases hy with hy | hy | hy | hy
    · have := d0 y hy; rw [hk] at this; rw [if_pos this]; exact iha s0 hy hk
    · have := d1 y hy; rw [hk] at this; rw [if_neg (by omega), if_pos this]; exact ihb s1 hy hk
    · have := d2 y hy; rw [hk] at this; rw [if_neg (by omega), if_neg (by omega), if_pos this]; exact ihc s2 hy hk
    · have := d3 y hy; rw [hk] at this; rw [if_neg (by omega), if_neg (by omega), if_neg (by omega)]; exact ihd s3 hy hk
theorem hasL_lby {key : Int} {t : HT} {lv : Nat} (h : Sh lv t) : hasL key (lby key t lv) = hasL key t.lvs := by
  rw [Bool.eq_iff_iff]
  unfold hasL
  simp only [List.any_eq_true, beq_iff_eq]
  exact ⟨fun ⟨y, h1, h2⟩ => ⟨y, lby_lvs h1, h2⟩, fun ⟨y, h1, h2⟩ => ⟨y, lby_key h h1 h2, h2⟩⟩
theorem lby_len {key : Int} : ∀ {t : HT} {lv : Nat}, Sh lv t → (lby key t lv).length ≤ 9 := by
  intro t
  induction t with
  | nil => intro lv _; simp [lby]
  | leaf x => intro lv _; simp [lby]
  | clash r p ls => intro lv h; exact h.2.2.1
  | trie r p a b c d iha ihb ihc ihd =>
    rintro lv ⟨_, _, _, s0, s1, s2, s3⟩
    simp only [lby]
    split
    · exact iha s0
    split
    · exact ihb s1
    split
    · exact ihc s2
    · exact ihd s3

set_option maxHeartbeats 1000000 in
theorem htHas_is (A B : Option Addr) (n c m d : Nat) (ns : List Nd) (hok : ∀ x ∈ ns, x.Ok) (t : HT) (hR : Rp ns t) (hS : Sh 0 t) (key : Int) (w : World) (h : Rd w 16 A n (flat Nd.cells ns)) (hU : U t.ref) :
    Calls Try.prog 20 #[.agg #[.slice A n c, .slice B m d], .int .u64 t.ref, .int .i64 key] w fun e w' => e = .returned (.bool (hasL key t.lvs)) ∧ Ext w w' := by
  obtain ⟨w1, hw1⟩ : ∃ w1, w1 = w.alloc (.cells #[.slice A n c, .slice B m d] 26) := ⟨_, rfl⟩
  obtain ⟨B1, hx1, hs1⟩ := box_made hw1
  obtain ⟨w2, hw2⟩ : ∃ w2, w2 = w1.alloc (.cells #[.int .i64 key] 2) := ⟨_, rfl⟩
  obtain ⟨B2, hx2, hs2⟩ := box_made hw2
  rw [hs1] at B2
  have H1 := Lib.hid hw1
  have H2 := Lib.hid hw2
  have HB1 := Lib.hid (B1.to hx2)
  have HB2 := Lib.hid B2
  have X2 := Lib.hid (hx1.step hx2)
  have i0 : w2.cell? ⟨w.heap.size, 0, none⟩ = some (.slice A n c) := HB1.out.cell 0
  have i1 : w2.cell? ⟨w.heap.size, 1, none⟩ = some (.slice B m d) := HB1.out.cell 1
  have i2 : w2.cell? ⟨w.heap.size + 1, 0, none⟩ = some (.int .i64 key) := HB2.out.cell 0
  have HL := Lib.hid (fun W (hW : Ext w W) => htLv_is A B n c m d ns hok key t 0 hR hS W (h.to hW) hU)
  obtain ⟨l, hl⟩ : ∃ l, l = lby key t 0 := ⟨_, rfl⟩
  rw [← hl] at HL
  have HLV : ∀ y ∈ l, Lv ns y := fun y hy => rp_lvs hR (lby_lvs (by rw [← hl]; exact hy))
  have hU' : ∀ z ∈ l.map Lf.r, U z := fun z hz => by
    obtain ⟨y, hy, rfl⟩ := List.mem_map.1 hz
    exact rp_u hok hR hS hU y (lby_lvs (by rw [← hl]; exact hy))
  have HB := Lib.hid (show (l.map Lf.r).any (fun z => (nodeF ns z).n == key) = hasL key t.lvs by rw [any_leaves HLV, hl, hasL_lby hS])
  rw [← HB.out]
  have hl9 : l.length ≤ 9 := by rw [hl]; exact lby_len hS
  have HT := Lib.hid (fun W (hW : Ext w2 W) => show Tells 39 (.pointer (some ⟨w.heap.size, 0, none⟩)) (.pointer (some ⟨w.heap.size + 1, 0, none⟩)) (fun z => (nodeF ns z).n == key) (l.map Lf.r) W from
    fun i hi W' hW' => htHas1_is A B n c m d ns key _ _ _ W' (HB1.out.to (hW.step hW')) (HB2.out.to (hW.step hW')) (h.to (X2.out.step (hW.step hW'))) (hU' _ (List.mem_of_getElem? (ith_of _ hi))))
  have HC := Lib.hid (fun S n' c' W (hW : Ext w2 W) hr hn => htContains_is 39 (fun args w => by kernel_rfl) (.pointer (some ⟨w.heap.size, 0, none⟩)) (.pointer (some ⟨w.heap.size + 1, 0, none⟩)) S n' c' (l.map Lf.r) (fun z => (nodeF ns z).n == key) W hr hn (HT.out W hW))
  generalize (l.map Lf.r).any (fun z => (nodeF ns z).n == key) = b at HC ⊢
  have HZL := Lib.hid (show (l.map Lf.r).length ≤ 9 by simpa using hl9)
  clear hw1 B1 hx1 hs1 hw2 B2 hx2 hs2 h hR hS hok HLV hU' hl hl9 HB HT
  go_enter Try.func20, Try.ntmps20
  go_upto_region 1 with fail
  rw [← H1.out, ← H2.out]
  go_wp2_with (first
    | (go_at_call 33; refine (HL.out _ X2.out).mono ?_; rintro e w3 ⟨S, n', c', rfl, ⟨hs3, _⟩, hx3⟩)
    | (go_at_call 38; refine (HC.out S n' c' _ hx3 hs3.rd (by have := hs3.len; have := HZL.out; omega)).mono ?_; rintro e w4 ⟨rfl, hx4⟩))
  go_ret
  exact ⟨rfl, X2.out.step (hx3.step hx4)⟩

end Go.Proofs.Ytfoifcbaadnigaa
