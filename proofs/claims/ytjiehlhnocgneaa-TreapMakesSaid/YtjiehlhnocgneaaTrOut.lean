/-
  Contracts: the outmost key to a side, whether a map is below another one (outmost, isBelow).
-/
import Derived.Test.YtjiehlhnocgneaaTrFind
import Derived.Test.YtjiehlhnocgneaaQTail
set_option linter.unusedVariables false
set_option linter.unusedSimpArgs false
namespace Go.Proofs.Ytjiehlhnocgneaa
open Go.RowKit

def firstK : Row → Int
  | [] => 0
  | x :: _ => x.1
def lastK (l : Row) : Int := firstK l.reverse
theorem firstK_app {a b : Row} (h : a ≠ []) : firstK (a ++ b) = firstK a := by
  cases a with
  | nil => exact absurd rfl h
  | cons x a => rfl
theorem lastK_app {a b : Row} (h : b ≠ []) : lastK (a ++ b) = lastK b := by
  unfold lastK
  rw [List.reverse_append]
  exact firstK_app (by simpa using h)
theorem lastK_mid {a b : Row} {x : Int × Int} (h : b ≠ []) : lastK (a ++ x :: b) = lastK b := by
  rw [show a ++ x :: b = (a ++ [x]) ++ b by simp]
  exact lastK_app h
theorem lastK_one {a : Row} {x : Int × Int} : lastK (a ++ [x]) = x.1 := by simp [lastK, firstK]
theorem T.row_ne {t : T} (h : t ≠ .nil) : t.row ≠ [] := fun e => h (T.row_nil e)
theorem below_iff {a b : Row} (ha : Srt a) (hb : Srt b) (na : a ≠ []) (nb : b ≠ []) : lastK a < firstK b ↔ ∀ x ∈ a, ∀ y ∈ b, x.1 < y.1 := by
  obtain ⟨y, b, rfl⟩ : ∃ y b', b = y :: b' := by
    cases b with
    | nil => exact absurd rfl nb
    | cons y b => exact ⟨y, b, rfl⟩
  obtain ⟨a, x, rfl⟩ : ∃ a' x, a = a' ++ [x] := ⟨a.dropLast, a.getLast na, (List.dropLast_concat_getLast na).symm⟩
  rw [lastK_one]
  have h1 := Srt.app.1 ha
  have h2 := List.pairwise_cons.1 hb
  constructor
  · intro h p hp q hq
    have e1 : p.1 ≤ x.1 := by
      rcases List.mem_append.1 hp with hp | hp
      · have := h1.2.2 p hp x (by simp); omega
      · simp at hp; rw [hp]; omega
    have e2 : y.1 ≤ q.1 := by
      rcases List.mem_cons.1 hq with hq | hq
      · rw [hq]; omega
      · have := h2.1 q hq; omega
    simp only [firstK] at h
    omega
  · intro h
    exact h x (by simp) y (by simp)
/-- A map's node by its tree. -/
structure Nod (ns : List Nd) (r : Int) (l : T) (k v : Int) (u : T) (x : Nd) : Prop where
  at_ : nodeF ns r = x
  is : x = trNd x.g k v ((l.size + u.size + 1 : Nat) : Int) l.ref u.ref
  n : x.n = k
  v : x.v = v
  s : x.s = ((l.size + u.size + 1 : Nat) : Int)
  r0 : x.r0 = l.ref
  r1 : x.r1 = u.ref
theorem Rep.nod {ns : List Nd} {r : Int} {l : T} {k v : Int} {u : T} (h : Rep ns (.node r l k v u)) : ∃ x, Nod ns r l k v u x := by
  obtain ⟨g, e⟩ := h.node
  exact ⟨_, e, rfl, rfl, rfl, rfl, rfl, rfl⟩
theorem Nd.a5 (x : Nd) : x.arr[5]? = some (.int .u64 x.r0) := by simp [Nd.arr]
theorem Nd.a6 (x : Nd) : x.arr[6]? = some (.int .u64 x.r1) := by simp [Nd.arr]
/-- What a node's variable holds of a size. -/
def szAt (w : World) (b : Nat) : Nat := match w.cell? ⟨b, 4, none⟩ with | some (.int _ s) => s.toNat | _ => 0
theorem szAt_is {w : World} {b : Nat} {x : Nd} (h : Bx w b x.arr) : szAt w b = x.s.toNat := by
  unfold szAt
  rw [h.cell 4, x.a4]

set_option maxHeartbeats 1000000 in
theorem outmost0_is (A B : Option Addr) (n c m d : Nat) (ns : List Nd) (t : T) (w : World) (hR : Rep ns t) (hne : t ≠ .nil) (hU : U t.ref) (h : Rd w 16 A n (flat Nd.cells ns)) (hok : ∀ x ∈ ns, x.Ok) :
    Calls Try.prog 78 #[.agg #[.slice A n c, .slice B m d], .int .u64 t.ref, .int .i64 0] w fun e w' => e = .returned (.int .i64 (firstK t.row)) ∧ Ext w w' := by
  obtain ⟨w1, hw1⟩ : ∃ w1, w1 = w.alloc (.cells #[.slice A n c, .slice B m d] 25) := ⟨_, rfl⟩
  obtain ⟨B1, hx1, hs1⟩ := box_made hw1
  have HB1 := Lib.hid B1
  have H1 := Lib.hid hw1
  have X1 := Lib.hid hx1
  have HA := Lib.hid (h.to hx1)
  have HOK := Lib.hid hok
  obtain ⟨r0, l0, k0, v0, u0, rfl⟩ : ∃ r l k v u, t = .node r l k v u := by
    cases t with
    | nil => exact absurd rfl hne
    | node r l k v u => exact ⟨r, l, k, v, u, rfl⟩
  have HT := Lib.hid (hR)
  obtain ⟨x0, hX0⟩ := hR.nod
  have HX0 := Lib.hid hX0
  have HN := Lib.hid (nodeOf_is A B n c m d ns r0 w1 hU.1 hU.2 (h.to hx1))
  rw [hX0.at_] at HN
  obtain ⟨z, hz⟩ : ∃ z, z = firstK (T.node r0 l0 k0 v0 u0).row := ⟨_, rfl⟩
  rw [← hz]
  have HZ := Lib.hid hz
  have q0 : w1.cell? ⟨w.heap.size, 0, none⟩ = some (.slice A n c) := B1.cell 0
  have q1 : w1.cell? ⟨w.heap.size, 1, none⟩ = some (.slice B m d) := B1.cell 1
  rw [show (T.node r0 l0 k0 v0 u0).ref = r0 from rfl]
  clear B1 hs1 hx1 h hw1 hok hz hX0 hne hR
  go_enter Try.func78, Try.ntmps78
  go_wp2_with fail
  rw [← H1.out]
  go_wp2_with fail
  refine HN.out.mono ?_; rintro e w5 ⟨rfl, hx5⟩
  obtain ⟨w6, hw6⟩ : ∃ w6, w6 = w5.alloc (.cells x0.arr 76) := ⟨_, rfl⟩
  obtain ⟨B6, hx6, hs6⟩ := box_made hw6
  have hlt5 := Lib.hid (show w.heap.size < w5.heap.size by have h1 := HB1.out.lt; have h2 := hx5.size; omega)
  have h15 := Lib.hid hx5.size
  have H6 := Lib.hid hw6
  have HB6 := Lib.hid B6
  have HBA := Lib.hid (HB1.out.to (hx5.step hx6))
  have HX := Lib.hid (hx5.step hx6)
  clear hw6 hs6 hx5 hx6 B6 q0 q1
  go_wp2_with (first
    | (refine wpList_store_nd (W := w5) (by rfl) _ _ (by rfl) (by rfl) x0 (by rfl) _ (by rfl) (by rfl) ?_; rw [← H6.out]))
  simp only [Act.put]
  go_loopw [15] (fun _ wr => Hid (Ext w1 wr) ∧ Hid (Bx wr w.heap.size #[.slice A n c, .slice B m d]) ∧ ∃ (r : Int) (l : T) (k v : Int) (u : T) (x : Nd), Hid (Nod ns r l k v u x) ∧ Hid (Rep ns (.node r l k v u)) ∧ Hid (firstK (T.node r l k v u).row = z) ∧ Hid (Bx wr w5.heap.size x.arr)) (fun _ wr => szAt wr w5.heap.size)
  case atStart => exact ⟨HX, HBA, r0, l0, k0, v0, u0, x0, HX0, HT, Lib.hid HZ.out.symm, HB6⟩
  case round =>
    obtain ⟨hx, hba, r, l, k, v, u, x, hNx, hRu, hFz, hbn⟩ := hrel
    rename World => w7
    have q0 : w7.cell? ⟨w.heap.size, 0, none⟩ = some (.slice A n c) := hba.out.cell 0
    have q1 : w7.cell? ⟨w.heap.size, 1, none⟩ = some (.slice B m d) := hba.out.cell 1
    obtain ⟨y, hy⟩ : ∃ y, y = l.ref := ⟨_, rfl⟩
    have HY := Lib.hid hy
    have c5 : w7.cell? ⟨w5.heap.size, 5, none⟩ = some (.int .u64 y) := by rw [hy, ← hNx.out.r0]; exact (hbn.out.cell 5).trans x.a5
    have c2 : w7.cell? ⟨w5.heap.size, 2, none⟩ = some (.int .i64 k) := by rw [← hNx.out.n]; exact (hbn.out.cell 2).trans x.a2
    have hUk := hRu.out.kids HOK.out
    have hsz := Lib.hid (szAt_is hbn.out)
    have hUy : U y := by rw [hy]; exact hUk.1
    by_cases e0 : y = 0
    · have HE := Lib.hid (show k = z by
        have hk : l = .nil := (hRu.out.2.1.nil_iff).1 (by rw [← hy]; exact e0)
        have := hFz.out
        simp only [T.row] at this
        rw [hk] at this
        rw [← this]
        simp [T.row, firstK, lastK])
      subst e0
      clear hy hUk hUy HY
      go_wp2_with fail
      go_ret
      exact ⟨by rw [← HE.out]; rfl, X1.out.step hx.out⟩
    · have e1 : (y != 0) = true := by simp [e0]
      obtain ⟨r', l', k', v', u', hk⟩ : ∃ a1 a2 a3 a4 a5, l = T.node a1 a2 a3 a4 a5 := by
        have hq := hRu.out.2.1.nil_iff
        generalize l = kk at hq hy
        cases kk with
        | nil => exact absurd (by rw [hy]; rfl) e0
        | node r l k v u => exact ⟨r, l, k, v, u, rfl⟩
      have hRk := Lib.hid (hk ▸ hRu.out.2.1)
      have hyr : y = r' := by rw [hy, hk]; rfl
      obtain ⟨x', hX'⟩ := hRk.out.nod
      have HX' := Lib.hid hX'
      have HN := Lib.hid (fun W (hW : Ext w7 W) => nodeOf_is A B n c m d ns y W hUy.1 hUy.2 (HA.out.to (hx.out.step hW)))
      rw [hyr, hX'.at_] at HN
      rw [← hyr] at HN
      have HF := Lib.hid (show firstK (T.node r' l' k' v' u').row = z by
        have := hFz.out
        simp only [T.row] at this
        rw [hk] at this
        rw [← this]
        exact (firstK_app (T.row_ne (t := .node r' l' k' v' u') (by simp))).symm)
      have hsz2 := Lib.hid (show (T.node r' l' k' v' u').size < l.size + u.size + 1 by rw [← hk]; omega)
      have s0 := fun q : Later w7 => (hba.out.to q.ext).cell 0
      have s1 := fun q : Later w7 => (hba.out.to q.ext).cell 1
      have s2 := fun q : Later w7 => q.ext.cellOf c5
      simp only [List.getElem?_toArray, List.getElem?_cons_zero, List.getElem?_cons_succ] at s0 s1
      have hbn' := Lib.hid (fun q : Later w7 => hbn.out.to q.ext)
      clear hy hk hyr hX' hUk HY hFz
      go_wp2_with fail
      refine wp_region_later_tail 6 w7 (Ext.refl _) (by kernel_rfl) (by kernel_rfl) ?_
      simp only [List.take_succ_cons, List.take_zero, List.drop_succ_cons, List.drop_zero]
      repeat (go_big_quiet_step (first | (go_at_call 64; exact later_call (fun W hW => HN.out W hW))))
      refine wpQuiet_nil ?_
      rintro _ ⟨q, rfl⟩
      refine wpList_store_box (by rfl) _ _ (by rfl) _ (by rfl) x' (by rfl) _ (hbn'.out q) rfl ?_
      intro wz hbz hoz
      have hba' := hoz.bx (hba.out.to q.ext) (by have := hlt5.out; omega)
      have hxz := hoz.new (hx.out.step q.ext) h15.out
      have hszz := Lib.hid (szAt_is hbz)
      have HBz := Lib.hid hbz
      have HBA' := Lib.hid hba'
      have HXz := Lib.hid hxz
      clear s0 s1 s2 hbz hoz hba' hxz c5 c2 q0 q1
      go_wp2_with fail
      simp only [Act.put]
      go_roundw
      case rel => exact ⟨HXz, HBA', r', l', k', v', u', x', HX', hRk, HF, HBz⟩
      case measure => rw [hsz.out, hszz.out, HX'.out.s, hNx.out.s]; have := hsz2.out; simp only [T.size] at this; omega

set_option maxHeartbeats 1000000 in
theorem outmost1_is (A B : Option Addr) (n c m d : Nat) (ns : List Nd) (t : T) (w : World) (hR : Rep ns t) (hne : t ≠ .nil) (hU : U t.ref) (h : Rd w 16 A n (flat Nd.cells ns)) (hok : ∀ x ∈ ns, x.Ok) :
    Calls Try.prog 78 #[.agg #[.slice A n c, .slice B m d], .int .u64 t.ref, .int .i64 1] w fun e w' => e = .returned (.int .i64 (lastK t.row)) ∧ Ext w w' := by
  obtain ⟨w1, hw1⟩ : ∃ w1, w1 = w.alloc (.cells #[.slice A n c, .slice B m d] 25) := ⟨_, rfl⟩
  obtain ⟨B1, hx1, hs1⟩ := box_made hw1
  have HB1 := Lib.hid B1
  have H1 := Lib.hid hw1
  have X1 := Lib.hid hx1
  have HA := Lib.hid (h.to hx1)
  have HOK := Lib.hid hok
  obtain ⟨r0, l0, k0, v0, u0, rfl⟩ : ∃ r l k v u, t = .node r l k v u := by
    cases t with
    | nil => exact absurd rfl hne
    | node r l k v u => exact ⟨r, l, k, v, u, rfl⟩
  have HT := Lib.hid (hR)
  obtain ⟨x0, hX0⟩ := hR.nod
  have HX0 := Lib.hid hX0
  have HN := Lib.hid (nodeOf_is A B n c m d ns r0 w1 hU.1 hU.2 (h.to hx1))
  rw [hX0.at_] at HN
  obtain ⟨z, hz⟩ : ∃ z, z = lastK (T.node r0 l0 k0 v0 u0).row := ⟨_, rfl⟩
  rw [← hz]
  have HZ := Lib.hid hz
  have q0 : w1.cell? ⟨w.heap.size, 0, none⟩ = some (.slice A n c) := B1.cell 0
  have q1 : w1.cell? ⟨w.heap.size, 1, none⟩ = some (.slice B m d) := B1.cell 1
  rw [show (T.node r0 l0 k0 v0 u0).ref = r0 from rfl]
  clear B1 hs1 hx1 h hw1 hok hz hX0 hne hR
  go_enter Try.func78, Try.ntmps78
  go_wp2_with fail
  rw [← H1.out]
  go_wp2_with fail
  refine HN.out.mono ?_; rintro e w5 ⟨rfl, hx5⟩
  obtain ⟨w6, hw6⟩ : ∃ w6, w6 = w5.alloc (.cells x0.arr 76) := ⟨_, rfl⟩
  obtain ⟨B6, hx6, hs6⟩ := box_made hw6
  have hlt5 := Lib.hid (show w.heap.size < w5.heap.size by have h1 := HB1.out.lt; have h2 := hx5.size; omega)
  have h15 := Lib.hid hx5.size
  have H6 := Lib.hid hw6
  have HB6 := Lib.hid B6
  have HBA := Lib.hid (HB1.out.to (hx5.step hx6))
  have HX := Lib.hid (hx5.step hx6)
  clear hw6 hs6 hx5 hx6 B6 q0 q1
  go_wp2_with (first
    | (refine wpList_store_nd (W := w5) (by rfl) _ _ (by rfl) (by rfl) x0 (by rfl) _ (by rfl) (by rfl) ?_; rw [← H6.out]))
  simp only [Act.put]
  go_loopw [15] (fun _ wr => Hid (Ext w1 wr) ∧ Hid (Bx wr w.heap.size #[.slice A n c, .slice B m d]) ∧ ∃ (r : Int) (l : T) (k v : Int) (u : T) (x : Nd), Hid (Nod ns r l k v u x) ∧ Hid (Rep ns (.node r l k v u)) ∧ Hid (lastK (T.node r l k v u).row = z) ∧ Hid (Bx wr w5.heap.size x.arr)) (fun _ wr => szAt wr w5.heap.size)
  case atStart => exact ⟨HX, HBA, r0, l0, k0, v0, u0, x0, HX0, HT, Lib.hid HZ.out.symm, HB6⟩
  case round =>
    obtain ⟨hx, hba, r, l, k, v, u, x, hNx, hRu, hFz, hbn⟩ := hrel
    rename World => w7
    have q0 : w7.cell? ⟨w.heap.size, 0, none⟩ = some (.slice A n c) := hba.out.cell 0
    have q1 : w7.cell? ⟨w.heap.size, 1, none⟩ = some (.slice B m d) := hba.out.cell 1
    obtain ⟨y, hy⟩ : ∃ y, y = u.ref := ⟨_, rfl⟩
    have HY := Lib.hid hy
    have c5 : w7.cell? ⟨w5.heap.size, 6, none⟩ = some (.int .u64 y) := by rw [hy, ← hNx.out.r1]; exact (hbn.out.cell 6).trans x.a6
    have c2 : w7.cell? ⟨w5.heap.size, 2, none⟩ = some (.int .i64 k) := by rw [← hNx.out.n]; exact (hbn.out.cell 2).trans x.a2
    have hUk := hRu.out.kids HOK.out
    have hsz := Lib.hid (szAt_is hbn.out)
    have hUy : U y := by rw [hy]; exact hUk.2
    by_cases e0 : y = 0
    · have HE := Lib.hid (show k = z by
        have hk : u = .nil := (hRu.out.2.2.nil_iff).1 (by rw [← hy]; exact e0)
        have := hFz.out
        simp only [T.row] at this
        rw [hk] at this
        rw [← this]
        simp [T.row, firstK, lastK])
      subst e0
      clear hy hUk hUy HY
      go_wp2_with fail
      go_ret
      exact ⟨by rw [← HE.out]; rfl, X1.out.step hx.out⟩
    · have e1 : (y != 0) = true := by simp [e0]
      obtain ⟨r', l', k', v', u', hk⟩ : ∃ a1 a2 a3 a4 a5, u = T.node a1 a2 a3 a4 a5 := by
        have hq := hRu.out.2.2.nil_iff
        generalize u = kk at hq hy
        cases kk with
        | nil => exact absurd (by rw [hy]; rfl) e0
        | node r l k v u => exact ⟨r, l, k, v, u, rfl⟩
      have hRk := Lib.hid (hk ▸ hRu.out.2.2)
      have hyr : y = r' := by rw [hy, hk]; rfl
      obtain ⟨x', hX'⟩ := hRk.out.nod
      have HX' := Lib.hid hX'
      have HN := Lib.hid (fun W (hW : Ext w7 W) => nodeOf_is A B n c m d ns y W hUy.1 hUy.2 (HA.out.to (hx.out.step hW)))
      rw [hyr, hX'.at_] at HN
      rw [← hyr] at HN
      have HF := Lib.hid (show lastK (T.node r' l' k' v' u').row = z by
        have := hFz.out
        simp only [T.row] at this
        rw [hk] at this
        rw [← this]
        exact (lastK_mid (T.row_ne (t := .node r' l' k' v' u') (by simp))).symm)
      have hsz2 := Lib.hid (show (T.node r' l' k' v' u').size < l.size + u.size + 1 by rw [← hk]; omega)
      have s0 := fun q : Later w7 => (hba.out.to q.ext).cell 0
      have s1 := fun q : Later w7 => (hba.out.to q.ext).cell 1
      have s2 := fun q : Later w7 => q.ext.cellOf c5
      simp only [List.getElem?_toArray, List.getElem?_cons_zero, List.getElem?_cons_succ] at s0 s1
      have hbn' := Lib.hid (fun q : Later w7 => hbn.out.to q.ext)
      clear hy hk hyr hX' hUk HY hFz
      go_wp2_with fail
      refine wp_region_later_tail 6 w7 (Ext.refl _) (by kernel_rfl) (by kernel_rfl) ?_
      simp only [List.take_succ_cons, List.take_zero, List.drop_succ_cons, List.drop_zero]
      repeat (go_big_quiet_step (first | (go_at_call 64; exact later_call (fun W hW => HN.out W hW))))
      refine wpQuiet_nil ?_
      rintro _ ⟨q, rfl⟩
      refine wpList_store_box (by rfl) _ _ (by rfl) _ (by rfl) x' (by rfl) _ (hbn'.out q) rfl ?_
      intro wz hbz hoz
      have hba' := hoz.bx (hba.out.to q.ext) (by have := hlt5.out; omega)
      have hxz := hoz.new (hx.out.step q.ext) h15.out
      have hszz := Lib.hid (szAt_is hbz)
      have HBz := Lib.hid hbz
      have HBA' := Lib.hid hba'
      have HXz := Lib.hid hxz
      clear s0 s1 s2 hbz hoz hba' hxz c5 c2 q0 q1
      go_wp2_with fail
      simp only [Act.put]
      go_roundw
      case rel => exact ⟨HXz, HBA', r', l', k', v', u', x', HX', hRk, HF, HBz⟩
      case measure => rw [hsz.out, hszz.out, HX'.out.s, hNx.out.s]; have := hsz2.out; simp only [T.size] at this; omega

set_option maxHeartbeats 1000000 in
theorem isBelow_is (A B : Option Addr) (n c m d : Nat) (ns : List Nd) (t u : T) (w : World) (hR : Rep ns t) (hR2 : Rep ns u) (hS : Srt t.row) (hS2 : Srt u.row) (hU : U t.ref) (hU2 : U u.ref) (h : Rd w 16 A n (flat Nd.cells ns)) (hok : ∀ x ∈ ns, x.Ok)
    (b : Bool) (hb : b = true ↔ ∀ x ∈ t.row, ∀ y ∈ u.row, x.1 < y.1) :
    Calls Try.prog 53 #[.agg #[.slice A n c, .slice B m d], .int .u64 t.ref, .int .u64 u.ref] w fun e w' => e = .returned (.bool b) ∧ Ext w w' := by
  obtain ⟨w1, hw1⟩ : ∃ w1, w1 = w.alloc (.cells #[.slice A n c, .slice B m d] 25) := ⟨_, rfl⟩
  obtain ⟨B1, hx1, hs1⟩ := box_made hw1
  have H1 := Lib.hid hw1
  have X1 := Lib.hid hx1
  have s0 := fun q : Later w1 => (B1.to q.ext).cell 0
  have s1 := fun q : Later w1 => (B1.to q.ext).cell 1
  simp only [List.getElem?_toArray, List.getElem?_cons_zero, List.getElem?_cons_succ] at s0 s1
  have S := Lib.hid (And.intro s0 s1)
  have HA := Lib.hid (h.to hx1)
  have HOK := Lib.hid hok
  clear hw1 hx1 hs1 B1 h hok s0 s1
  by_cases e1 : t = .nil
  · subst e1
    have HB := Lib.hid (show b = true from hb.2 (fun x hx => by simp [T.row] at hx))
    rw [HB.out, show T.nil.ref = 0 from rfl]
    clear hb
    go_enter Try.func53, Try.ntmps53
    go_wp2_with fail
    rw [← H1.out]
    refine wp_region_later w1 (Ext.refl _) (by kernel_rfl) (by kernel_rfl) ?_
    repeat (go_big_quiet_step (fail))
    refine wpQuiet_nil ?_
    rintro _ ⟨q, rfl⟩
    go_wp2_with fail
    go_ret
    exact ⟨rfl, X1.out.step q.ext⟩
  · have n1 := Lib.hid (show t.ref ≠ 0 from fun e => e1 (hR.nil_iff.1 e))
    have n1' : (t.ref == 0) = false := by simp [n1.out]
    by_cases e2 : u = .nil
    · subst e2
      have HB := Lib.hid (show b = true from hb.2 (fun x hx y hy => by simp [T.row] at hy))
      rw [HB.out, show T.nil.ref = 0 from rfl]
      clear hb
      generalize t.ref = r at n1' hU ⊢
      go_enter Try.func53, Try.ntmps53
      go_wp2_with fail
      rw [← H1.out]
      refine wp_region_later w1 (Ext.refl _) (by kernel_rfl) (by kernel_rfl) ?_
      repeat (go_big_quiet_step (fail))
      refine wpQuiet_nil ?_
      rintro _ ⟨q, rfl⟩
      go_wp2_with fail
      go_ret
      exact ⟨rfl, X1.out.step q.ext⟩
    · have n2 := Lib.hid (show u.ref ≠ 0 from fun e => e2 (hR2.nil_iff.1 e))
      have n2' : (u.ref == 0) = false := by simp [n2.out]
      have HL := Lib.hid (fun W (hW : Ext w1 W) => outmost1_is A B n c m d ns t W hR e1 hU (HA.out.to hW) HOK.out)
      have HF := Lib.hid (fun W (hW : Ext w1 W) => outmost0_is A B n c m d ns u W hR2 e2 hU2 (HA.out.to hW) HOK.out)
      have HB := Lib.hid (show b = decide (lastK t.row < firstK u.row) from Bool.eq_iff_iff.2 (hb.trans ((below_iff hS hS2 (T.row_ne e1) (T.row_ne e2)).symm.trans (by simp))))
      clear hb e1 e2 n1 n2 hS hS2 hR hR2
      generalize lastK t.row = x at HL HB
      generalize firstK u.row = y at HF HB
      generalize t.ref = r at n1' hU HL ⊢
      generalize u.ref = s at n2' hU2 HF ⊢
      obtain ⟨s0, s1⟩ := S.out
      rw [HB.out]
      go_enter Try.func53, Try.ntmps53
      go_wp2_with fail
      rw [← H1.out]
      refine wp_region_later w1 (Ext.refl _) (by kernel_rfl) (by kernel_rfl) ?_
      repeat (go_big_quiet_step (first | (go_at_call 78; with_reducible exact later_call HL.out) | (go_at_call 78; with_reducible exact later_call HF.out)))
      refine wpQuiet_nil ?_
      rintro _ ⟨q, rfl⟩
      go_wp2_with fail
      go_ret
      exact ⟨rfl, X1.out.step q.ext⟩

end Go.Proofs.Ytjiehlhnocgneaa
