/-
  Contracts: a key's node, the outmost key, whether a map is below another one (find, outmost, isBelow).
-/
import Derived.Test.YtjiehlhnocgneaaTrNode
set_option linter.unusedVariables false
set_option linter.unusedSimpArgs false
namespace Go.Proofs.Ytjiehlhnocgneaa
open Go.RowKit

/-- A number that a reference may have. -/
abbrev U (z : Int) : Prop := 0 ≤ z ∧ z ≤ 18446744073709551615
theorem U.zero : U 0 := ⟨by omega, by omega⟩
theorem Rep.node {ns : List Nd} {r : Int} {l : T} {k v : Int} {u : T} (h : Rep ns (.node r l k v u)) : ∃ g, nodeF ns r = trNd g k v ((l.size + u.size + 1 : Nat) : Int) l.ref u.ref := by
  obtain ⟨⟨p, g, hg⟩, _⟩ := h
  exact ⟨g, nodeF_got hg⟩
theorem Rep.kids {ns : List Nd} (hok : ∀ x ∈ ns, x.Ok) {r : Int} {l : T} {k v : Int} {u : T} (h : Rep ns (.node r l k v u)) : U l.ref ∧ U u.ref := by
  obtain ⟨⟨p, g, hg⟩, _⟩ := h
  have := hok _ (List.mem_of_getElem? hg.at_)
  exact ⟨this l.ref (by simp [trNd, Nd.kids]), this u.ref (by simp [trNd, Nd.kids])⟩
/-- The part of a map from a key on down. -/
def T.sub : T → Int → T
  | .nil, _ => .nil
  | .node r l k v u, q => if k = q then .node r l k v u else if q < k then l.sub q else u.sub q
theorem sub_size (t : T) (q : Int) : (t.sub q).size ≤ t.size := by
  induction t with
  | nil => exact Nat.le_refl _
  | node r l k v u ih1 ih2 =>
    simp only [T.sub]
    split
    · exact Nat.le_refl _
    · split <;> simp only [T.size] <;> omega
theorem sub_rep {ns : List Nd} {t : T} (h : Rep ns t) (q : Int) : Rep ns (t.sub q) := by
  induction t with
  | nil => trivial
  | node r l k v u ih1 ih2 =>
    simp only [T.sub]
    split
    · exact h
    · split
      · exact ih1 h.2.1
      · exact ih2 h.2.2
theorem sub_is {t : T} (hs : Srt t.row) (q : Int) : (t.sub q = .nil ∧ ¬ HasK t.row q) ∨ ∃ r l v u, t.sub q = .node r l q v u ∧ (q, v) ∈ t.row := by
  induction t with
  | nil => exact .inl ⟨rfl, by rintro ⟨v, h⟩; simp [T.row] at h⟩
  | node r l k v u ih1 ih2 =>
    have hm := Srt.mid.1 hs
    simp only [T.sub]
    by_cases h1 : k = q
    · subst h1
      exact .inr ⟨r, l, v, u, by simp, by simp [T.row]⟩
    · rw [if_neg h1]
      by_cases h2 : q < k
      · rw [if_pos h2]
        rcases ih1 hm.1 with ⟨e, hn⟩ | ⟨r', l', v', u', e, hmem⟩
        · refine .inl ⟨e, fun hk => ?_⟩
          rcases HasK.mid.1 hk with hk | hk | ⟨v', hk⟩
          · exact hn hk
          · exact h1 hk.symm
          · have := hm.2.2.2.1 _ hk; simp at this; omega
        · exact .inr ⟨r', l', v', u', e, by simp [T.row, hmem]⟩
      · rw [if_neg h2]
        rcases ih2 hm.2.1 with ⟨e, hn⟩ | ⟨r', l', v', u', e, hmem⟩
        · refine .inl ⟨e, fun hk => ?_⟩
          rcases HasK.mid.1 hk with ⟨v', hk⟩ | hk | hk
          · have := hm.2.2.1 _ hk; simp at this; omega
          · exact h1 hk.symm
          · exact hn hk
        · exact .inr ⟨r', l', v', u', e, by simp [T.row, hmem]⟩
/-- A measure of a reference. -/
def big (ns : List Nd) (v : Value) : Nat := (rowF ns 200 (intOf v)).length
theorem big_rep {ns : List Nd} {t : T} (h : Rep ns t) (hz : t.size ≤ 200) : big ns (.int .u64 t.ref) = t.size := by
  show (rowF ns 200 t.ref).length = _
  rw [rowF_rep h hz, T.row_length]

set_option maxHeartbeats 1000000 in
theorem find_is (A B : Option Addr) (n c m d : Nat) (ns : List Nd) (q : Int) (t : T) (w : World) (hR : Rep ns t) (hz : t.size ≤ 200) (hU : U t.ref) (h : Rd w 16 A n (flat Nd.cells ns)) (hok : ∀ x ∈ ns, x.Ok) :
    Calls Try.prog 40 #[.agg #[.slice A n c, .slice B m d], .int .u64 t.ref, .int .i64 q] w fun e w' => e = .returned (.int .u64 (t.sub q).ref) ∧ Ext w w' := by
  obtain ⟨w1, hw1⟩ : ∃ w1, w1 = w.alloc (.cells #[.slice A n c, .slice B m d] 25) := ⟨_, rfl⟩
  obtain ⟨B1, hx1, hs1⟩ := box_made hw1
  have HB1 := Lib.hid B1
  have H1 := Lib.hid hw1
  have X1 := Lib.hid hx1
  have HA := Lib.hid (h.to hx1)
  have HOK := Lib.hid hok
  clear B1 hs1 hx1 h hw1 hok
  go_enter Try.func40, Try.ntmps40
  go_wp2_with fail
  rw [← H1.out]
  go_loopw [1] (fun v wr => Ext w1 wr ∧ ∃ (u : T) (z : Int), v = .int .u64 z ∧ U z ∧ Hid (u.ref = z) ∧ Hid (Rep ns u) ∧ Hid (u.size ≤ 200) ∧ Hid (u.sub q = t.sub q)) (fun v _ => big ns v)
  case atStart => exact ⟨Ext.refl _, t, _, rfl, hU, Lib.hid rfl, Lib.hid hR, Lib.hid hz, Lib.hid rfl⟩
  case round =>
    obtain ⟨hx, u, z, rfl, hUu, hzr, hRu, hzu, hsub⟩ := hrel
    rename World => w4
    have q0 : w4.cell? ⟨w.heap.size, 0, none⟩ = some (.slice A n c) := (HB1.out.to hx).cell 0
    have q1 : w4.cell? ⟨w.heap.size, 1, none⟩ = some (.slice B m d) := (HB1.out.to hx).cell 1
    cases u with
    | nil =>
      have HE := Lib.hid (show (0 : Int) = (t.sub q).ref by rw [← hsub.out]; rfl)
      obtain rfl : (0 : Int) = z := hzr.out
      clear hsub hRu hzu hzr
      go_wp2_with fail
      go_ret
      exact ⟨by rw [← HE.out]; rfl, X1.out.step hx⟩
    | node r l k v u =>
      obtain rfl : r = z := hzr.out
      clear hzr
      obtain ⟨g, hnode⟩ := hRu.out.node
      have hkids := Lib.hid (hRu.out.kids HOK.out)
      have hr0 : (r != 0) = true := by simp [hRu.out.ref_nz]
      have HN := Lib.hid (nodeOf_is A B n c m d ns r w4 hUu.1 hUu.2 (HA.out.to hx))
      rw [hnode] at HN
      have hsz := Lib.hid (big_rep hRu.out hzu.out)
      have hz' := Lib.hid (show l.size ≤ 200 ∧ u.size ≤ 200 by have := hzu.out; simp only [T.size] at this; omega)
      have hl := Lib.hid (big_rep hRu.out.2.1 hz'.out.1)
      have hu := Lib.hid (big_rep hRu.out.2.2 hz'.out.2)
      rw [show (T.node r l k v u).ref = r from rfl] at hsz
      clear hnode
      go_wp2_with fail
      refine HN.out.mono ?_; rintro e w5 ⟨rfl, hx5⟩
      obtain ⟨w6, hw6⟩ : ∃ w6, w6 = w5.alloc (.cells (trNd g k v ((l.size + u.size + 1 : Nat) : Int) l.ref u.ref).arr 76) := ⟨_, rfl⟩
      obtain ⟨B6, hx6, hs6⟩ := box_made hw6
      have H6 := Lib.hid hw6
      have n6 := B6.node
      have c2 : w6.cell? ⟨w5.heap.size, 2, none⟩ = some (.int .i64 k) := (B6.cell 2).trans rfl
      have c5 : w6.cell? ⟨w5.heap.size, 5, none⟩ = some (.int .u64 l.ref) := (B6.cell 5).trans rfl
      have c6 : w6.cell? ⟨w5.heap.size, 6, none⟩ = some (.int .u64 u.ref) := (B6.cell 6).trans rfl
      have HX := Lib.hid (hx.step (hx5.step hx6))
      have HB6 := Lib.hid B6
      clear hw6 hs6 hx5 hx6 B6 q0 q1 hx
      by_cases e1 : k = q
      · subst e1
        have HE := Lib.hid (show r = (t.sub k).ref by rw [← hsub.out]; simp [T.sub, T.ref])
        clear c5 c6 hsub
        go_wp2_with (first
          | (refine wpList_store_nd (W := w5) (by rfl) _ _ (by rfl) (by rfl) (trNd g k v ((l.size + u.size + 1 : Nat) : Int) l.ref u.ref) (by rfl) _ (by rfl) (by rfl) ?_; rw [← H6.out]))
        go_ret
        exact ⟨by rw [← HE.out]; rfl, X1.out.step HX.out⟩
      · have e1' : (k == q) = false := by simp [e1]
        by_cases e2 : q < k
        · have HS := Lib.hid (show l.sub q = t.sub q by rw [← hsub.out]; simp [T.sub, e1, e2])
          have HC := Lib.hid (fun W => sideOf_is (trNd g k v ((l.size + u.size + 1 : Nat) : Int) l.ref u.ref) q W)
          rw [show (if q < (trNd g k v ((l.size + u.size + 1 : Nat) : Int) l.ref u.ref).n then (0 : Int) else 1) = 0 from if_pos e2] at HC
          clear hsub e1
          go_wp2_with (first
            | (refine wpList_store_nd (W := w5) (by rfl) _ _ (by rfl) (by rfl) (trNd g k v ((l.size + u.size + 1 : Nat) : Int) l.ref u.ref) (by rfl) _ (by rfl) (by rfl) ?_; rw [← H6.out])
            | (refine wpList_load_nd (by rfl) _ (by rfl) _ (by rfl) (trNd g k v ((l.size + u.size + 1 : Nat) : Int) l.ref u.ref) n6 ?_))
          refine (HC.out _).mono ?_; rintro e w7 ⟨rfl, hx7⟩
          have c5 : w7.cell? ⟨w5.heap.size, 5, none⟩ = some (.int .u64 l.ref) := (HB6.out.to hx7).cell 5
          go_wp2_with fail
          go_roundw
          case rel => exact ⟨HX.out.step hx7, l, _, rfl, hkids.out.1, Lib.hid rfl, Lib.hid hRu.out.2.1, Lib.hid hz'.out.1, HS⟩
          case measure => rw [hl.out, hsz.out]; simp only [T.size]; omega
        · have HS := Lib.hid (show u.sub q = t.sub q by rw [← hsub.out]; simp [T.sub, e1, e2])
          have HC := Lib.hid (fun W => sideOf_is (trNd g k v ((l.size + u.size + 1 : Nat) : Int) l.ref u.ref) q W)
          rw [show (if q < (trNd g k v ((l.size + u.size + 1 : Nat) : Int) l.ref u.ref).n then (0 : Int) else 1) = 1 from if_neg e2] at HC
          clear hsub e1
          go_wp2_with (first
            | (refine wpList_store_nd (W := w5) (by rfl) _ _ (by rfl) (by rfl) (trNd g k v ((l.size + u.size + 1 : Nat) : Int) l.ref u.ref) (by rfl) _ (by rfl) (by rfl) ?_; rw [← H6.out])
            | (refine wpList_load_nd (by rfl) _ (by rfl) _ (by rfl) (trNd g k v ((l.size + u.size + 1 : Nat) : Int) l.ref u.ref) n6 ?_))
          refine (HC.out _).mono ?_; rintro e w7 ⟨rfl, hx7⟩
          have c6 : w7.cell? ⟨w5.heap.size, 6, none⟩ = some (.int .u64 u.ref) := (HB6.out.to hx7).cell 6
          go_wp2_with fail
          go_roundw
          case rel => exact ⟨HX.out.step hx7, u, _, rfl, hkids.out.2, Lib.hid rfl, Lib.hid hRu.out.2.2, Lib.hid hz'.out.2, HS⟩
          case measure => rw [hu.out, hsz.out]; simp only [T.size]; omega

end Go.Proofs.Ytjiehlhnocgneaa
