/-
  What SpanTells' calls answer, told for its walk: a new row of those between two keys; a step by what it says; what a store of a map into a cursor leaves.
-/
import Derived.Test.YthgaogbpkedjcaaSpOpen
set_option linter.unusedVariables false
set_option linter.unusedSimpArgs false
namespace Go.Proofs.Ythgaogbpkedjcaa
open Go.RowKit

/-- A row in a block of its own. -/
def RowF (l : Row) (w : World) (e : Ending) (w' : World) : Prop := ∃ A j c, e = .returned (.slice A j c) ∧ RdR w' (.slice A j c) l ∧ Ext w w' ∧ (l.length ≠ 0 → ∀ q, A = some q → w.heap.size ≤ q.block)

set_option maxHeartbeats 3200000 in
set_option maxRecDepth 100000 in
theorem spWithinF_is (A : Option Addr) (n c : Nat) (l : Row) (a b : Int) (w : World) (h : RdI w A n l) (hn : n ≤ 1000) :
    Calls Try.prog 18 #[.slice A n c, .int .i64 a, .int .i64 b] w (RowF (inn l a b) w) := by
  have hl := Lib.hid h.len
  have HH := Lib.hid h
  obtain ⟨i0, hi0, hz0, hz1, hz2⟩ := info_parts item_info
  clear h
  go_enter Try.func18, Try.ntmps18
  go_wp2_with fail
  go_loopw [12, 7, 9] (fun j s _ wr => Hid (Ext w wr) ∧ ∃ (k : Nat), k ≤ n ∧ j = .int .i64 k ∧ Hid (OutX wr w.heap.size [] s (inn (l.take k) a b))) (fun j _ _ _ => n - (intOf j).toNat)
  case atStart => exact ⟨Lib.hid (Ext.refl _), 0, Nat.zero_le _, rfl, Lib.hid (RowX.nil0 _ _ _ _ _)⟩
  case round =>
    obtain ⟨hx, k, hk, rfl, hO⟩ := hrel
    rename World => w4
    by_cases hlt : k < n
    · obtain ⟨x, hxk⟩ : ∃ x, l[k]? = some x := ⟨_, List.getElem?_eq_getElem (by have := hl.out; omega)⟩
      obtain ⟨ad, rfl, hit⟩ := HH.out.item hxk
      obtain ⟨x1, x2⟩ := x
      obtain ⟨c0, c1⟩ := hit.to hx.out
      have HX := Lib.hid hxk
      obtain ⟨w5, hw5⟩ : ∃ w5, w5 = w4.alloc (.cells #[.int .i64 x1, .int .i64 x2] 40) := ⟨_, rfl⟩
      obtain ⟨B5, hx5, hs5⟩ := box_made hw5
      have H5 := Lib.hid hw5
      have X5 := Lib.hid (hx.out.step hx5)
      have HS5 := Lib.hid hs5
      have HO5 := Lib.hid (show OutX w5 w.heap.size [] _ (inn (l.take k) a b) from RowX.to hO.out hx5)
      have hlen : (inn (l.take k) a b).length ≤ k := Nat.le_trans (List.length_filter_le _ _) (List.length_take_le k l)
      simp only at c0 c1
      obtain ⟨o, ho⟩ : ∃ o, o = inn (l.take k) a b := ⟨_, rfl⟩
      rw [← ho] at HO5 hlen
      have HOe := Lib.hid ho
      obtain ⟨m, hm⟩ : ∃ m, m = o.length := ⟨_, rfl⟩
      have HM := Lib.hid hm
      rw [← hm] at hlen
      have hm1 : m ≤ 1001 := by omega
      have hkn : ¬ n ≤ k := by omega
      have HP5 := Lib.hid HO5.out
      unfold OutX at HO5
      rw [← hm] at HO5
      clear hxk hit hw5 B5 hx5 hs5 hO hlen hm ho
      by_cases hp : a ≤ x1 ∧ x1 ≤ b
      · have HE := Lib.hid (show inn (l.take (k + 1)) a b = o ++ [(x1, x2)] by
          rw [take_snoc HX.out, HOe.out]; rw [inn_app, inn_cons]; simp [hp, inn])
        obtain ⟨w6, hw6⟩ : ∃ w6, w6 = w5.alloc (.cells #[.int .i64 x1, .int .i64 x2] 40) := ⟨_, rfl⟩
        obtain ⟨B_, hx_, hs_⟩ := box_made hw6
        have Hw6 := Lib.hid hw6
        have HRw6 := Lib.hid (show RdI w6 (some ⟨w4.heap.size + 1, 0, none⟩) 1 [(x1, x2)] by rw [hw6, ← HS5.out]; exact Rd.lit w5 #[.int .i64 x1, .int .i64 x2] 40 1 rfl)
        have HOw6 := Lib.hid (HO5.out.to hx_)
        have Xw6 := Lib.hid (X5.out.step hx_)
        have hbw6 := Lib.hid (show w.heap.size ≤ w6.heap.size from Xw6.out.size)
        clear hw6 hs_
        clear B_ hx_
        go_wp2_with (first
          | (at_builtin
             rw [← H5.out, ← Hw6.out]
             refine wpList_append_x _ rfl (.tmp 26) (.tmp 28) _ rfl 40 i0 _ 2 16 Try.underlying31 hi0 hz0 hz1 hz2 rfl (by omega) w.heap.size [] _ m (flat itc o) rfl HOw6.out (some ⟨w4.heap.size + 1, 0, none⟩) 1 1 (flat itc [(x1, x2)]) rfl HRw6.out (flat_one itc_one _) (by simp only [maxLen]; omega) (by omega) hbw6.out (fun b hb => by cases hb) ?_
             intro A7 c7 w7 hr7 ap7
             have HX7 := Lib.hid (ap7.old w Xw6.out (Nat.le_refl _))
             have HR7 := Lib.hid (show OutX w7 w.heap.size [] (.slice A7 (m + 1 : Nat) c7) (inn (l.take (k + 1)) a b) by
               unfold OutX
               rw [HE.out, List.length_append, ← HM.out, ← flat_append]
               exact hr7)
             clear hr7 ap7))
        go_roundw
        case rel => exact ⟨HX7, k + 1, by omega, by go_num, HR7⟩
        case measure => simp [intOf]; omega
      · have HE := Lib.hid (show inn (l.take (k + 1)) a b = o by
          rw [take_snoc HX.out, HOe.out]; rw [inn_app, inn_cons]; simp [hp, inn])
        have HNP := Lib.hid hp
        clear hp
        by_cases ha : a ≤ x1
        · have hb : ¬ x1 ≤ b := fun h => HNP.out ⟨ha, h⟩
          go_wp2_with fail
          try rw [← H5.out]
          go_roundw
          case rel => exact ⟨by first | exact X5 | (rw [← H5.out]; exact X5), k + 1, by omega, by go_num, by first | (rw [HE.out]; exact HP5) | (rw [HE.out, ← H5.out]; exact HP5)⟩
          case measure => simp [intOf]; omega
        · go_wp2_with fail
          try rw [← H5.out]
          go_roundw
          case rel => exact ⟨by first | exact X5 | (rw [← H5.out]; exact X5), k + 1, by omega, by go_num, by first | (rw [HE.out]; exact HP5) | (rw [HE.out, ← H5.out]; exact HP5)⟩
          case measure => simp [intOf]; omega
    · have hge : n ≤ k := by omega
      have hkn : k = n := by omega
      subst hkn
      obtain ⟨A', c', hs', h1, h2⟩ := RowX.slice hO.out
      subst hs'
      have he : l.take k = l := List.take_of_length_le (by have := hl.out; omega)
      have HF : RowF (inn l a b) w (.returned (.slice A' ((inn (l.take k) a b).length : Nat) c')) w4 := by
        have h3 := RowX.rd hO.out
        have h5 : (inn (l.take k) a b).length ≠ 0 → ∀ q, A' = some q → w.heap.size ≤ q.block := fun hne q hq => by
          subst hq
          rcases hO.out.row with h | ⟨h, _⟩
          · exact (h.1.lt q.block rfl).1
          · exact absurd h hne
        rw [he] at h1 h3 h5 ⊢
        exact ⟨A', _, c', rfl, ⟨A', c', rfl, h3, h1, h2⟩, hx.out, h5⟩
      have HF := Lib.hid HF
      clear hO he
      go_wp2_with fail
      go_ret
      exact HF.out

theorem Ar.few8 {w : World} {A B : Option Addr} {n m : Nat} {ns : List Nd} {fs : List Int} (h : Ar w A n B m ns fs) : Ar w A (min n 60) B (min m 62) (ns.take 60) (fs.take 62) := by
  have h1 := h.nodes.take (k := min n 60) (by omega)
  have h2 := h.free.take (k := min m 62) (by omega)
  rw [flat_take Nd.cells_length] at h1
  have e1 : ns.take (min n 60) = ns.take 60 := by
    rw [← h.len, Nat.min_comm, List.take_eq_take_iff]
    omega
  have e2 : (Ks .i64 fs).take (min m 62 * 1) = Ks .i64 (fs.take 62) := by
    unfold Ks
    rw [List.map_take, Nat.mul_one, ← h.lenF, Nat.min_comm, List.take_eq_take_iff]
    simp
  rw [e1] at h1
  rw [e2] at h2
  exact ⟨h1, h2, fun x hx => h.ok x (List.mem_of_mem_take hx)⟩

theorem Lk.only8 {t : TypeId} {W W' : World} {b b' : Nat} {cs : Array Value} (h : Lk t W b cs) (ho : Only b' W W') (hn : b ≠ b') : Lk t W' b cs :=
  (ho.block b h.lt (fun e => hn (by injection e))).trans h
/-- A row does not lie in a cell of an unsigned number. -/
theorem rdr_set0 {W : World} {b : Nat} {v : Value} {l : Row} {z : Int} {x y q u : Value} (h : RdR W v l) (hb : Bx W b #[.int .u64 z, x, y, q]) : RdR (W.setCell ⟨b, 0, none⟩ u) v l := by
  have ho : Only b W (W.setCell ⟨b, 0, none⟩ u) := (Only.refl b W).set 0 u
  have hb' : Bx (W.setCell ⟨b, 0, none⟩ u) b #[u, x, y, q] := hb.set (j := 0) (by simp) u
  obtain ⟨A, c, h1, h2, h3⟩ := h
  refine ⟨A, c, h1, ⟨h2.1, fun j i hj => ?_⟩, h3⟩
  obtain ⟨ad, ha, hc⟩ := h2.2 j i hj
  refine ⟨ad, ha, ?_⟩
  by_cases hq : (ad.add j).block = b
  · have hi : ∃ k, i = .int .i64 k := by
      obtain ⟨y', _, hy⟩ := List.mem_flatMap.1 (List.mem_of_getElem? hj)
      simp only [itc, List.mem_cons, List.not_mem_nil, or_false] at hy
      rcases hy with rfl | rfl
      · exact ⟨_, rfl⟩
      · exact ⟨_, rfl⟩
    obtain ⟨k, rfl⟩ := hi
    generalize hp : ad.add j = p at *
    obtain ⟨pb, po, ps⟩ := p
    simp only at hq
    subst hq
    cases ps with
    | none =>
      rw [hb.cell po] at hc
      rw [hb'.cell po]
      rcases po with _ | po
      · simp at hc
      · simpa using hc
    | some s =>
      unfold World.cell? at hc
      simp only [Option.isSome_some, if_true] at hc
      split at hc <;> cases hc
  · exact ho.cellOf hc hq

theorem ext_kx8 {w W0 W : World} {G : Nat} (hx : Ext w W0) (hK : Kx (fun b _ => b = G) W0 W) (hG : w.heap.size ≤ G) : Ext w W :=
  ⟨hK.os.trans hx.os, hK.tape.trans hx.tape, hK.output.trans hx.output, Nat.le_trans hx.size hK.size, fun k hk => by
    have e1 := hx.block k hk
    have e2 : w.heap[k]? = some w.heap[k] := Array.getElem?_eq_getElem hk
    rw [e2] at e1 ⊢
    exact hK.block k _ e1 (fun e => by omega)⟩
theorem same_yes (A B : Option Addr) (n m c d : Nat) (l q : Row) (w : World) (h : RdI w A n l) (h' : RdI w B m q) (hn : n ≤ 1000) (hq : l = q) :
    Calls Try.prog 17 #[.slice A n c, .slice B m d] w fun e w' => e = .returned (.bool true) ∧ Ext w w' :=
  (spSame_is A B n m c d l q w h h' hn).mono fun e w' h => ⟨by rw [h.1, decide_eq_true hq], h.2⟩
/-- What a step says of a row. -/
def StepR (l : Row) (r ca cb : Int) (cq : Bool) (dz da db : Int) (dq : Bool) (x1 x2 kk : Int) : Prop :=
  (cq = true ∧ dz = 0 ∧ da = 0 ∧ db = 0 ∧ dq = false ∧ x1 = 0 ∧ x2 = 0 ∧ kk = 3) ∨
  (cq = false ∧ inn l ca cb = [] ∧ r = dz ∧ ca = da ∧ cb = db ∧ dq = true ∧ x1 = 0 ∧ x2 = 0 ∧ kk = 0) ∨
  (cq = false ∧ inn l ca cb = [(x1, x2)] ∧ cb = x1 ∧ r = dz ∧ ca = da ∧ cb = db ∧ dq = true ∧ kk = 0) ∨
  (cq = false ∧ (∃ rest, inn l ca cb = (x1, x2) :: rest) ∧ x1 < cb ∧ ca ≤ x1 ∧ r = dz ∧ da = x1 + 1 ∧ cb = db ∧ dq = false ∧ kk = 0)
def StepT (l : Row) (r ca cb : Int) (cq : Bool) (w : World) (e : Ending) (w' : World) : Prop :=
  ∃ (dz da db : Int) (dq : Bool) (x1 x2 kk : Int), e = .returned (.tuple #[.agg #[.int .u64 dz, .int .i64 da, .int .i64 db, .bool dq], .agg #[.int .i64 x1, .int .i64 x2], .int .i64 kk]) ∧ StepR l r ca cb cq dz da db dq x1 x2 kk ∧ Ext w w'
theorem step_tell {W : World} {A B : Option Addr} {n m c d : Nat} {ns : List Nd} {fs : List Int} {r : Int} {l : Row} (h : Av W A n B m ns fs) (hM : MapV ns r l) (ca cb : Int) (cq : Bool) (ha : -9223372036854775808 ≤ ca) (hb : cb ≤ 9223372036854775807) :
    Calls Try.prog 13 #[.agg #[.slice A n c, .slice B m d], .agg #[.int .u64 r, .int .i64 ca, .int .i64 cb, .bool cq]] W (StepT l r ca cb cq W) := by
  cases cq with
  | true =>
    obtain ⟨t, h1, rfl, rfl, hU⟩ := hM
    refine (step_no A B n m c d ns fs t.ref ca cb true W h.ar h.n1 h.m1 hU true (by simp only [true_iff]; exact ⟨h.may, t, h1, rfl⟩) 3 (.inr ⟨rfl, rfl, rfl⟩)).mono ?_
    rintro e w' ⟨rfl, hx⟩
    exact ⟨_, _, _, _, _, _, _, rfl, .inl ⟨rfl, rfl, rfl, rfl, rfl, rfl, rfl, rfl⟩, hx⟩
  | false =>
    refine (step_is A B n m c d ns fs r ca cb l W h hM ha hb).mono ?_
    intro e w' hs
    rcases stepO_inn hM.srt hs with ⟨h1, rfl, hx⟩ | ⟨x, q, h1, h2, h3, rfl, hx⟩ | ⟨x, q, h1, h2, h3, h4, rfl, hx⟩
    · exact ⟨_, _, _, _, _, _, _, rfl, .inr (.inl ⟨rfl, h1, rfl, rfl, rfl, rfl, rfl, rfl, rfl⟩), hx⟩
    · subst h3
      exact ⟨_, _, _, _, _, _, _, rfl, .inr (.inr (.inl ⟨rfl, h1, h2.symm, rfl, rfl, rfl, rfl, rfl⟩)), hx⟩
    · exact ⟨_, _, _, _, _, _, _, rfl, .inr (.inr (.inr ⟨rfl, ⟨q, h1⟩, h2, h3, rfl, rfl, rfl, rfl, rfl⟩)), hx⟩

end Go.Proofs.Ythgaogbpkedjcaa
