/-
  Texts in one: RowX RfRow RfTop RfOrd RfIs RfLay RfBuild RfPut RfDel ShMath.
-/
import Derived.Test.YtfoifcbaadnigaaGE
import Derived.Test.YtfoifcbaadnigaaGB
import Derived.Test.YtfoifcbaadnigaaGF
import Derived.Test.YtfoifcbaadnigaaGC

/-
  A row of the call's own that lies in none of some blocks, or an empty literal; append onto it.
-/
set_option linter.unusedVariables false
set_option linter.unusedSimpArgs false
namespace Go.Proofs.Ytfoifcbaadnigaa
open Go.RowKit

structure RowX (W : World) (base : Nat) (ex : List Nat) (e : TypeId) (size : Nat) (v : Value) (n : Nat) (xs : List Value) : Prop where
  row : (W.ownsRow base e size v n xs ∧ ∀ k, v.ownBlock = some k → k ∉ ex) ∨ (n = 0 ∧ xs = [] ∧ ∃ q, v = .slice (some q) 0 0)
theorem RowX.nil (W : World) (base : Nat) (ex : List Nat) (e : TypeId) (size : Nat) (q : Addr) : RowX W base ex e size (.slice (some q) 0 0) 0 [] := ⟨.inr ⟨rfl, rfl, q, rfl⟩⟩
theorem RowX.nil0 (W : World) (base : Nat) (ex : List Nat) (e : TypeId) (size : Nat) : RowX W base ex e size (.slice none 0 0) 0 [] := ⟨.inl ⟨World.ownsRow_nil _ _ _ _, fun k hk => by cases hk⟩⟩
section
variable {W W' : World} {base : Nat} {ex : List Nat} {e : TypeId} {size n : Nat} {v : Value} {xs : List Value}
theorem RowX.to (h : RowX W base ex e size v n xs) (hx : Ext W W') : RowX W' base ex e size v n xs := ⟨h.row.imp (fun h => ⟨own_ext h.1 hx, h.2⟩) id⟩
theorem RowX.only {b : Nat} (h : RowX W base ex e size v n xs) (ho : Only b W W') (hb : b ∈ ex) : RowX W' base ex e size v n xs :=
  ⟨h.row.imp (fun h => ⟨own_only h.1 ho (fun e => h.2 _ e hb), h.2⟩) id⟩
theorem RowX.old {b : Nat} (h : RowX W base ex e size v n xs) (ho : Only b W W') (hb : W.heap.size ≤ b) : RowX W' base ex e size v n xs :=
  ⟨h.row.imp (fun h => ⟨own_only h.1 ho (fun e => by have := (h.1.lt _ e).2; omega), h.2⟩) id⟩
/-- A block that is made is none of the row's. -/
theorem RowX.add (h : RowX W base ex e size v n xs) (hx : Ext W W') {b : Nat} (hb : W.heap.size ≤ b) : RowX W' base (b :: ex) e size v n xs :=
  ⟨h.row.imp (fun h => ⟨own_ext h.1 hx, fun k hk hm => by
    rcases List.mem_cons.1 hm with rfl | hm
    · have := (h.1.lt k hk).2; omega
    · exact h.2 k hk hm⟩) id⟩
theorem RowX.sub {ex' : List Nat} (h : RowX W base ex e size v n xs) (hs : ∀ b ∈ ex', b ∈ ex) : RowX W base ex' e size v n xs :=
  ⟨h.row.imp (fun h => ⟨h.1, fun k hk hm => h.2 k hk (hs k hm)⟩) id⟩
theorem RowX.slice (h : RowX W base ex e size v n xs) : ∃ A c, v = .slice A n c ∧ n ≤ c ∧ c ≤ maxLen := by
  rcases h.row with h | ⟨rfl, rfl, q, rfl⟩
  · obtain ⟨A, c, rfl⟩ := own_slice h.1
    rcases h.1.2 with ⟨hv, h0⟩ | ⟨g, cap, cur, hv, _, _, hn, hm, _⟩
    · injection hv with _ h1 h2
      exact ⟨A, c, rfl, by omega, by unfold maxLen; omega⟩
    · injection hv with _ _ h2
      subst h2
      exact ⟨A, c, rfl, hn, hm⟩
  · exact ⟨_, _, rfl, Nat.le_refl _, by unfold maxLen; omega⟩
theorem RowX.rd {A : Option Addr} {c : Nat} (h : RowX W base ex e size (.slice A n c) n xs) : Rd W size A n xs := by
  rcases h.row with h | ⟨rfl, rfl, q, hq⟩
  · exact Rd.own h.1
  · exact Rd.nil W size A
end

/-- What an append leaves alone. -/
structure Apd (W W' : World) (base : Nat) (ex : List Nat) : Prop where
  size : W.heap.size ≤ W'.heap.size
  keep : ∀ b cs, b ∈ ex → Bx W b cs → Bx W' b cs
  old : ∀ w0 : World, Ext w0 W → w0.heap.size ≤ base → Ext w0 W'

theorem run_append_x {P : Program} (w : World) (t ty e : TypeId) (i : TypeInfo) (z : Value) (size bytes : Nat) (ht : P.underlying t = some (.slice e)) (hi : P.info? e = some i) (hz : i.zero = some z)
    (hsize : i.size = size) (hby : i.bytes = bytes) (hzs : z.cells.size = size) (hsz : 0 < size) (base : Nat) (ex : List Nat) (v : Value) (n : Nat) (xs : List Value) (hr : RowX w base ex e size v n xs)
    (A : Option Addr) (m c : Nat) (news : List Value) (hn : Rd w size A m news) (h1 : ∀ u ∈ news, u.oneCell' = true) (h63 : n + m ≤ maxLen) (hbytes : (n + m) * bytes ≤ 140737488355328) (hbase : base ≤ w.heap.size) (hex : ∀ b ∈ ex, b < w.heap.size) :
    ∃ A' c' w', (Builtin.append_ #[t, t] ty #[v, .slice A m c]).run P w = .ok (.slice A' (n + m : Nat) c') w' ∧ RowX w' base ex e size (.slice A' (n + m : Nat) c') (n + m) (xs ++ news) ∧ Apd w w' base ex := by
  rcases hr.row with ⟨hown, hap⟩ | ⟨rfl, rfl, q, rfl⟩
  · obtain ⟨v', w', hrun, h2, h3, h4⟩ := run_append_rd (P := P) w base t ty e i z size bytes ht hi hz hsize hby hzs hsz v n xs hown A m c news hn h1 h63 hbytes hbase
    obtain ⟨A', c', rfl⟩ := own_slice h2
    refine ⟨A', c', w', hrun, ⟨.inl ⟨h2, fun k hk hm => ?_⟩⟩, h3.size, fun b cs hb hB => hB.grown h3 (fun e => hap _ e hb), fun w0 h0 hb => own_back h0 h0.size h3 (fun k hk => Nat.le_trans hb (hown.lt k hk).1)⟩
    rcases h4 with e | e
    · exact hap k (by rw [← e]; exact hk) hm
    · rw [e] at hk
      injection hk with hk
      have := hex k hm
      omega
  · obtain ⟨A', c', w', hrun, h2, h3⟩ := run_append_new (P := P) w t ty e i z size bytes ht hi hz hsize hby hzs hsz q A m c news hn h1 (by omega) (by simpa using hbytes)
    refine ⟨A', c', w', by simpa using hrun, ⟨?_⟩, h3.size, fun b cs hb hB => hB.to h3, fun w0 h0 hb => h0.step h3⟩
    rcases h2 with h2 | ⟨rfl, rfl, q', hq'⟩
    · refine .inl ⟨by simpa using own_base h2 hbase, fun k hk hm => ?_⟩
      have hk' : (Value.slice A' m c').ownBlock = some k := by simpa using hk
      have := (h2.lt k hk').1
      have := hex k hm
      omega
    · exact .inr ⟨rfl, rfl, q', by simpa using hq'⟩

theorem wpList_append_x {P : Program} (w : World) {ops : Array Oper} {rest : List Oper} {o : Oper} {a : Act} {Q : Exit → Act → World → Prop} (hgd : o.guard = none) (s x : Operand) (t : TypeId)
    (ho : o.op = .call { callee := .builtin .append, args := #[s, x], argTypes := #[t, t] })
    (e : TypeId) (i : TypeInfo) (z : Value) (size bytes : Nat) (ht : P.underlying t = some (.slice e)) (hi : P.info? e = some i) (hz : i.zero = some z)
    (hsize : i.size = size) (hby : i.bytes = bytes) (hzs : z.cells.size = size) (hsz : 0 < size) (base : Nat) (ex : List Nat)
    (v : Value) (n : Nat) (xs : List Value) (hs : a.eval s = v) (hr : RowX w base ex e size v n xs)
    (A : Option Addr) (m c : Nat) (news : List Value) (hx : a.eval x = .slice A m c) (hn : Rd w size A m news) (h1 : ∀ u ∈ news, u.oneCell' = true)
    (h63 : n + m ≤ maxLen) (hbytes : (n + m) * bytes ≤ 140737488355328) (hbase : base ≤ w.heap.size) (hex : ∀ b ∈ ex, b < w.heap.size)
    (h : ∀ A' c' w', RowX w' base ex e size (.slice A' (n + m : Nat) c') (n + m) (xs ++ news) → Apd w w' base ex → wpList P ops Q rest (a.put o.dst (.slice A' (n + m : Nat) c')) w') :
    wpList P ops Q (o :: rest) a w := by
  refine wpList_plain hgd fun K hK => ?_
  obtain ⟨A', c', w', hrun, h2, h3⟩ := run_append_x (P := P) w t o.type e i z size bytes ht hi hz hsize hby hzs hsz base ex v n xs hr A m c news hn h1 h63 hbytes hbase hex
  unfold Oper.wp execOp
  simp only [ho, resolve, invoke, builtin, Sem.run_bind, Sem.run_pure, Result.andThen_ok, List.map_toArray, List.map_cons, List.map_nil, hs, hx, hrun]
  exact hK _ _ (h A' c' w' h2 h3)
end Go.Proofs.Ytfoifcbaadnigaa

/-
  Contract: what is met from a reference on, as the document tells it (Row).
-/
set_option linter.unusedVariables false
set_option linter.unusedSimpArgs false
namespace Go.Proofs.Ytfoifcbaadnigaa
open Go.RowKit

def itc (x : Int × Int) : List Value := [.int .i64 x.1, .int .i64 x.2]
theorem itc_length (x : Int × Int) : (itc x).length = 2 := rfl
theorem itc_one (x : Int × Int) : ∀ u ∈ itc x, u.oneCell' = true := by
  intro u hu
  simp [itc] at hu
  rcases hu with rfl | rfl <;> rfl
theorem item_info : (Try.prog.info? 43).map (fun i => (i.zero, i.size, i.bytes)) = some (some (.agg #[.int .i64 0, .int .i64 0]), 2, 16) := by kernel_rfl
/-- In w a slice shows a row. -/
abbrev RdI (w : World) (A : Option Addr) (n : Nat) (l : Row) : Prop := Rd w 2 A n (flat itc l)
theorem RdI.len {w : World} {A : Option Addr} {n : Nat} {l : Row} (h : RdI w A n l) : l.length = n := by
  have := h.1
  rw [flat_length itc_length] at this
  omega

def RowA (l : Row) (w : World) (e : Ending) (w' : World) : Prop :=
  ∃ A c, e = .returned (.slice A l.length c) ∧ RdI w' A l.length l ∧ l.length ≤ c ∧ c ≤ maxLen ∧ Ext w w'

end Go.Proofs.Ytfoifcbaadnigaa

/-
  Contracts of the document's answers on rows: the key above all others (top), whether a row is in order (Ordered), a key's place (At).
-/
set_option linter.unusedVariables false
set_option linter.unusedSimpArgs false
namespace Go.Proofs.Ytfoifcbaadnigaa
open Go.RowKit

/-- The two cells of an item. -/
def ItAt (w : World) (a : Addr) (x : Int × Int) : Prop := w.cell? a = some (.int .i64 x.1) ∧ w.cell? { block := a.block, off := a.off + 1 } = some (.int .i64 x.2)
theorem RdI.item {w : World} {A : Option Addr} {n : Nat} {l : Row} (h : RdI w A n l) {k : Nat} {x : Int × Int} (hx : l[k]? = some x) : ∃ ad, A = some ad ∧ ItAt w (ad.add (k * 2)) x := by
  obtain ⟨ad, ha, h0⟩ := h.2 (k * 2 + 0) (.int .i64 x.1) ((flat_get itc_length l k 0 x hx (by omega)).trans rfl)
  obtain ⟨ad', ha', h1⟩ := h.2 (k * 2 + 1) (.int .i64 x.2) ((flat_get itc_length l k 1 x hx (by omega)).trans rfl)
  rw [ha] at ha'
  injection ha' with ha'
  subst ha'
  refine ⟨ad, ha, h0, ?_⟩
  rw [← addr_add] at h1
  exact h1
theorem ItAt.to {w w' : World} {a : Addr} {x : Int × Int} (h : ItAt w a x) (hx : Ext w w') : ItAt w' a x := ⟨hx.cellOf h.1, hx.cellOf h.2⟩

def TopA (l : Row) (w : World) (e : Ending) (w' : World) : Prop :=
  ((l = [] ∧ e = .returned (.int .i64 (-1))) ∨ ∃ a k v b, l = a ++ (k, v) :: b ∧ (∀ y ∈ a, Bef k y.1) ∧ (∀ y ∈ b, Bef k y.1) ∧ e = .returned (.int .i64 (a.length : Nat))) ∧ Ext w w'
/-- Up to a place the j-th key is above all others. -/
def Best (l : Row) (k j : Nat) : Prop := ∀ (i : Nat) (x y : Int × Int), i < k → i ≠ j → l[j]? = some y → l[i]? = some x → Bef y.1 x.1
theorem srt_get {l : Row} (h : Srt l) {i j : Nat} {x y : Int × Int} (hx : l[i]? = some x) (hy : l[j]? = some y) (hij : i < j) : x.1 < y.1 := by
  obtain ⟨h1, e1⟩ := List.getElem?_eq_some_iff.1 hx
  obtain ⟨h2, e2⟩ := List.getElem?_eq_some_iff.1 hy
  rw [← e1, ← e2]
  exact List.pairwise_iff_getElem.1 h i j h1 h2 hij
theorem srt_ne {l : Row} (h : Srt l) {i j : Nat} {x y : Int × Int} (hx : l[i]? = some x) (hy : l[j]? = some y) (hij : i ≠ j) : x.1 ≠ y.1 := by
  rcases Nat.lt_or_gt_of_ne hij with h' | h'
  · have := srt_get h hx hy h'; omega
  · have := srt_get h hy hx h'; omega
theorem best_first (l : Row) : Best l 1 0 := fun i x y hi hij _ _ => by omega
theorem best_new {l : Row} {k j : Nat} {x y : Int × Int} (hb : Best l k j) (hj : j < k) (hx : l[k]? = some x) (hy : l[j]? = some y) (h : Bef x.1 y.1) : Best l (k + 1) k := by
  intro i z u hi hik hu hz
  rw [hx] at hu
  injection hu with hu
  subst hu
  by_cases e : i = j
  · subst e
    rw [hy] at hz
    injection hz with hz
    subst hz
    exact h
  · exact h.trans (hb i z y (by omega) e hy hz)
theorem best_old {l : Row} {k j : Nat} {x y : Int × Int} (hs : Srt l) (hb : Best l k j) (hj : j < k) (hx : l[k]? = some x) (hy : l[j]? = some y) (h : ¬ Bef x.1 y.1) : Best l (k + 1) j := by
  intro i z u hi hij hu hz
  rw [hy] at hu
  injection hu with hu
  subst hu
  by_cases e : i = k
  · subst e
    rw [hx] at hz
    injection hz with hz
    subst hz
    exact (Bef.total (srt_ne hs hx hy (by omega))).resolve_left h
  · exact hb i z y (by omega) hij hy hz
theorem best_all {l : Row} {j : Nat} (hj : j < l.length) (hb : Best l l.length j) : ∃ a k v b, l = a ++ (k, v) :: b ∧ (∀ y ∈ a, Bef k y.1) ∧ (∀ y ∈ b, Bef k y.1) ∧ a.length = j := by
  refine ⟨l.take j, l[j].1, l[j].2, l.drop (j + 1), ?_, ?_, ?_, by simp; omega⟩
  · conv => lhs; rw [← List.take_append_drop j l, List.drop_eq_getElem_cons hj]
  · intro y hy
    obtain ⟨i, hi⟩ := List.getElem?_of_mem hy
    rw [List.getElem?_take] at hi
    split at hi
    · exact hb i y l[j] (by omega) (by omega) (List.getElem?_eq_getElem hj) hi
    · cases hi
  · intro y hy
    obtain ⟨i, hi⟩ := List.getElem?_of_mem hy
    rw [List.getElem?_drop] at hi
    exact hb _ y l[j] (List.getElem?_eq_some_iff.1 hi).1 (by omega) (List.getElem?_eq_getElem hj) hi

end Go.Proofs.Ytfoifcbaadnigaa

/-
  Contracts of the document's answers on rows: whether a row is in order (Ordered), a key's place (At).
-/
set_option linter.unusedVariables false
set_option linter.unusedSimpArgs false
namespace Go.Proofs.Ytfoifcbaadnigaa
open Go.RowKit

theorem srt_step {l : Row} {k : Nat} {y x : Int × Int} (hs : Srt (l.take (k + 1))) (hy : l[k]? = some y) (hx : l[k + 1]? = some x) (h : y.1 < x.1) : Srt (l.take (k + 1 + 1)) := by
  rw [List.take_add_one, hx]
  show Srt (l.take (k + 1) ++ [x])
  rw [Srt.app]
  refine ⟨hs, by simp [Srt], fun a ha b hb => ?_⟩
  simp at hb
  subst hb
  rw [List.take_add_one, hy] at ha hs
  rcases List.mem_append.1 ha with ha | ha
  · have := (Srt.app.1 hs).2.2 a ha y (by simp)
    omega
  · simp at ha
    rw [ha]
    exact h

def AtA (l : Row) (key : Int) (w : World) (e : Ending) (w' : World) : Prop :=
  ((¬ HasK l key ∧ e = .returned (.int .i64 (-1))) ∨ ∃ (j : Nat) (v : Int), l[j]? = some (key, v) ∧ e = .returned (.int .i64 j)) ∧ Ext w w'

set_option maxHeartbeats 2000000 in
theorem rfAt_is (A : Option Addr) (n c : Nat) (l : Row) (key : Int) (w : World) (h : RdI w A n l) (hn : n ≤ 1000) :
    Calls Try.prog 9 #[.slice A n c, .int .i64 key] w (AtA l key w) := by
  have hl := Lib.hid h.len
  have HH := Lib.hid h
  clear h
  go_enter Try.func9, Try.ntmps9
  go_wp2_with fail
  go_loopw [9, 5, 6] (fun j _ _ wr => Hid (Ext w wr) ∧ ∃ k : Nat, k ≤ n ∧ j = .int .i64 k ∧ Hid (∀ (i : Nat) (x : Int × Int), i < k → l[i]? = some x → x.1 ≠ key)) (fun j _ _ _ => n - (intOf j).toNat)
  case atStart => exact ⟨Lib.hid (Ext.refl _), 0, Nat.zero_le _, rfl, Lib.hid (fun i x hi => by omega)⟩
  case round =>
    obtain ⟨hx, k, hk, rfl, hno⟩ := hrel
    rename World => w4
    by_cases hlt : k < n
    · obtain ⟨x, hxk⟩ : ∃ x, l[k]? = some x := ⟨_, List.getElem?_eq_getElem (by have := hl.out; omega)⟩
      obtain ⟨ad, rfl, hit⟩ := HH.out.item hxk
      obtain ⟨x1, x2⟩ := x
      obtain ⟨c0, c1⟩ := hit.to hx.out
      have HX := Lib.hid hxk
      have hx1 := Lib.hid (hx.out.new (.cells #[.int .i64 x1, .int .i64 x2] 43))
      simp only at c0 c1
      clear hxk hit
      by_cases hkey : x1 = key
      · subst hkey
        have HF := Lib.hid (show AtA l x1 w (.returned (.int .i64 k)) (w4.alloc (.cells #[.int .i64 x1, .int .i64 x2] 43)) from ⟨.inr ⟨k, x2, HX.out, rfl⟩, hx1.out⟩)
        go_wp2_with fail
        go_ret
        exact HF.out
      · have hk2 : (x1 == key) = false := by simp [hkey]
        have HN := Lib.hid (show ∀ (i : Nat) (x : Int × Int), i < k + 1 → l[i]? = some x → x.1 ≠ key from fun i x hi hxi => by
          by_cases e : i = k
          · subst e
            rw [HX.out] at hxi
            injection hxi with hxi
            subst hxi
            exact hkey
          · exact hno.out i x (by omega) hxi)
        clear hkey hno
        go_wp2_with fail
        go_roundw
        case rel => exact ⟨hx1, k + 1, by omega, by go_num, HN⟩
        case measure => simp [intOf]; omega
    · have HF := Lib.hid (show AtA l key w (.returned (.int .i64 (-1))) w4 from ⟨.inl ⟨by
        rintro ⟨v, hv⟩
        obtain ⟨i, hi⟩ := List.getElem?_of_mem hv
        exact hno.out i _ (by have := (List.getElem?_eq_some_iff.1 hi).1; have := hl.out; omega) hi rfl, rfl⟩, hx.out⟩)
      have hge : n ≤ k := by omega
      clear hno
      go_wp2_with fail
      go_ret
      exact HF.out

end Go.Proofs.Ytfoifcbaadnigaa

/-
  Contract: whether a reference is the map of a row, as the document tells it (Is).
-/
set_option linter.unusedVariables false
set_option linter.unusedSimpArgs false
namespace Go.Proofs.Ytfoifcbaadnigaa
open Go.RowKit

theorem RdI.drop {w : World} {ad : Addr} {n : Nat} {a b : Row} {j : Nat} (h : RdI w (some ad) n (a ++ b)) (hj : a.length = j) : RdI w (some (ad.add (j * 2))) (n - j) b := by
  have hl := h.len
  refine ⟨by rw [flat_length itc_length]; simp at hl; congr 1; omega, fun i u hu => ⟨_, rfl, ?_⟩⟩
  rw [addr_add]
  refine h.cells (j * 2 + i) u ?_
  rw [← flat_append, List.getElem?_append_right (by rw [flat_length itc_length, hj]; omega), flat_length itc_length, hj]
  rw [show j * 2 + i - j * 2 = i by omega]
  exact hu

end Go.Proofs.Ytfoifcbaadnigaa

/-
  Contract of the document's Lay: a row is laid as a map from a place on.
-/
set_option linter.unusedVariables false
set_option linter.unusedSimpArgs false
namespace Go.Proofs.Ytfoifcbaadnigaa
open Go.RowKit

theorem wp_store_cell1 {P : Program} {o : Oper} {a : Act} {w : World} {K : Act → World → Prop} {Q : Exit → Act → World → Prop} (ty : TypeId) (x y : Operand) (ho : o.op = .store ty x y)
    (b j : Nat) (hx : a.eval x = .pointer (some ⟨b, j, none⟩)) (v : Value) (hy : a.eval y = v) (h1 : v.oneCell' = true) (hi : (P.info? ty).map (·.size) = some 1) (cs : Array Value) (hB : Bx w b cs) (hj : j < cs.size)
    (h : ∀ W, Bx W b (cs.setIfInBounds j v) → Only b w W → K (a.put o.dst undef) W) : Oper.wp P o a w K Q := by
  unfold Oper.wp execOp
  simp only [ho, hx, hy, Instr.storeAt, Instr.sureAddr, Sem.run_bind, Sem.run_pure, Result.andThen_ok, run_storeVar_cell w b j ty v cs hB hj hi h1]
  exact h _ (hB.set hj v) ((Only.refl b w).set j v)

/-- A store into a block that is newer than w. -/
theorem Only.only_new {b b' : Nat} {w W W' : World} (h : Only b w W) (ho : Only b' W W') (hb : w.heap.size ≤ b') : Only b w W' :=
  ⟨ho.os.trans h.os, ho.tape.trans h.tape, ho.output.trans h.output, Nat.le_trans h.size ho.size, fun k hk hn => (ho.block k (Nat.lt_of_lt_of_le hk h.size) (fun e => by injection e with e; omega)).trans (h.block k hk hn)⟩

/-- What Lay does. -/
def LayA (g : Nat) (ns : List Nd) (p : Nat) (l : Row) (w : World) (e : Ending) (w' : World) : Prop :=
  ∃ ns' z, e = .returned (.int .u64 z) ∧ OwnN w' g ns' ∧ Only g w w' ∧ Laid ns ns' p l z

end Go.Proofs.Ytfoifcbaadnigaa

/-
  Contract of the document's Build: an arena with the map of a row.
-/
set_option linter.unusedVariables false
set_option linter.unusedSimpArgs false
namespace Go.Proofs.Ytfoifcbaadnigaa
open Go.RowKit

theorem run_append_y {P : Program} (w : World) (t ty e : TypeId) (i : TypeInfo) (z : Value) (size bytes : Nat) (ht : P.underlying t = some (.slice e)) (hi : P.info? e = some i) (hz : i.zero = some z)
    (hsize : i.size = size) (hby : i.bytes = bytes) (hzs : z.cells.size = size) (hsz : 0 < size) (base : Nat) (ex : List Nat) (v : Value) (n : Nat) (xs : List Value) (hr : RowX w base ex e size v n xs)
    (A : Option Addr) (m c : Nat) (news : List Value) (hn : Rd w size A m news) (h1 : ∀ u ∈ news, u.oneCell' = true) (h63 : n + m ≤ maxLen) (hbytes : (n + m) * bytes ≤ 140737488355328) (hbase : base ≤ w.heap.size) (hex : ∀ b ∈ ex, b < w.heap.size) :
    ∃ A' c' w', (Builtin.append_ #[t, t] ty #[v, .slice A m c]).run P w = .ok (.slice A' (n + m : Nat) c') w' ∧ RowX w' base ex e size (.slice A' (n + m : Nat) c') (n + m) (xs ++ news) ∧ ∃ r, w.grownBy w' r ∧ (∀ b ∈ ex, r ≠ some b) ∧ ∀ k, r = some k → base ≤ k := by
  rcases hr.row with ⟨hown, hap⟩ | ⟨rfl, rfl, q, rfl⟩
  · obtain ⟨v', w', hrun, h2, h3, h4⟩ := run_append_rd (P := P) w base t ty e i z size bytes ht hi hz hsize hby hzs hsz v n xs hown A m c news hn h1 h63 hbytes hbase
    obtain ⟨A', c', rfl⟩ := own_slice h2
    refine ⟨A', c', w', hrun, ⟨.inl ⟨h2, fun k hk hm => ?_⟩⟩, _, h3, fun b hb e => hap _ e hb, fun k hk => (hown.lt k hk).1⟩
    rcases h4 with e | e
    · exact hap k (by rw [← e]; exact hk) hm
    · rw [e] at hk
      injection hk with hk
      have := hex k hm
      omega
  · obtain ⟨A', c', w', hrun, h2, h3⟩ := run_append_new (P := P) w t ty e i z size bytes ht hi hz hsize hby hzs hsz q A m c news hn h1 (by omega) (by simpa using hbytes)
    refine ⟨A', c', w', by simpa using hrun, ⟨?_⟩, none, ⟨h3.os, h3.tape, h3.output, h3.size, fun k hk _ => h3.block k hk⟩, (by intro b _; simp), (by intro k hk; cases hk)⟩
    rcases h2 with h2 | ⟨rfl, rfl, q', hq'⟩
    · refine .inl ⟨by simpa using own_base h2 hbase, fun k hk hm => ?_⟩
      have hk' : (Value.slice A' m c').ownBlock = some k := by simpa using hk
      have := (h2.lt k hk').1
      have := hex k hm
      omega
    · exact .inr ⟨rfl, rfl, q', by simpa using hq'⟩

theorem wpList_append_y {P : Program} (w : World) {ops : Array Oper} {rest : List Oper} {o : Oper} {a : Act} {Q : Exit → Act → World → Prop} (hgd : o.guard = none) (s x : Operand) (t : TypeId)
    (ho : o.op = .call { callee := .builtin .append, args := #[s, x], argTypes := #[t, t] })
    (e : TypeId) (i : TypeInfo) (z : Value) (size bytes : Nat) (ht : P.underlying t = some (.slice e)) (hi : P.info? e = some i) (hz : i.zero = some z)
    (hsize : i.size = size) (hby : i.bytes = bytes) (hzs : z.cells.size = size) (hsz : 0 < size) (base : Nat) (ex : List Nat)
    (v : Value) (n : Nat) (xs : List Value) (hs : a.eval s = v) (hr : RowX w base ex e size v n xs)
    (A : Option Addr) (m c : Nat) (news : List Value) (hx : a.eval x = .slice A m c) (hn : Rd w size A m news) (h1 : ∀ u ∈ news, u.oneCell' = true)
    (h63 : n + m ≤ maxLen) (hbytes : (n + m) * bytes ≤ 140737488355328) (hbase : base ≤ w.heap.size) (hex : ∀ b ∈ ex, b < w.heap.size)
    (h : ∀ A' c' w' r, RowX w' base ex e size (.slice A' (n + m : Nat) c') (n + m) (xs ++ news) → w.grownBy w' r → (∀ b ∈ ex, r ≠ some b) → (∀ k, r = some k → base ≤ k) → wpList P ops Q rest (a.put o.dst (.slice A' (n + m : Nat) c')) w') :
    wpList P ops Q (o :: rest) a w := by
  refine wpList_plain hgd fun K hK => ?_
  obtain ⟨A', c', w', hrun, h2, r, h3, h4, h5⟩ := run_append_y (P := P) w t o.type e i z size bytes ht hi hz hsize hby hzs hsz base ex v n xs hr A m c news hn h1 h63 hbytes hbase hex
  unfold Oper.wp execOp
  simp only [ho, resolve, invoke, builtin, Sem.run_bind, Sem.run_pure, Result.andThen_ok, List.map_toArray, List.map_cons, List.map_nil, hs, hx, hrun]
  exact hK _ _ (h A' c' w' r h2 h3 h4 h5)
theorem OwnN.grown {W W' : World} {g : Nat} {ns : List Nd} {r : Option Nat} (h : OwnN W g ns) (hg : W.grownBy W' r) (hr : r ≠ some g) : OwnN W' g ns := by
  have e := hg.block g h.lt (fun e => hr e.symm)
  refine ⟨Nat.lt_of_lt_of_le h.lt hg.size, fun i x hx j hj => (World.cell?_of_block (a := ⟨g, i * 16 + j, none⟩) e).trans (h.cell i x hx j hj), fun j => by
    have := h.free j
    unfold World.frozen? at this ⊢
    rw [e]
    exact this⟩
theorem Ext.grown {w W W' : World} {r : Option Nat} (h : Ext w W) (hg : W.grownBy W' r) (hr : ∀ k, r = some k → w.heap.size ≤ k) : Ext w W' :=
  ⟨hg.os.trans h.os, hg.tape.trans h.tape, hg.output.trans h.output, Nat.le_trans h.size hg.size, fun k hk => (hg.block k (Nat.lt_of_lt_of_le hk h.size) (fun e => by have := hr k e.symm; omega)).trans (h.block k hk)⟩

/-- In a world two slices are an arena with some free nodes at least, and a reference the map of a row. -/
def SmF (W : World) (x y : Value) (z : Int) (l : Row) (q : Nat) : Prop :=
  ∃ (A : Option Addr) (n c : Nat) (B : Option Addr) (m d : Nat) (ns : List Nd) (fs : List Int) (t : T), x = .slice A n c ∧ y = .slice B m d ∧ Ar W A n B m ns fs ∧ ArMay ns fs ∧ Mp ns t ∧ t.ref = z ∧ t.row = l ∧ U z ∧ q ≤ fs.length
/-- What Build answers. -/
def BuildA (n : Nat) (l : Row) (w : World) (e : Ending) (w' : World) : Prop :=
  ∃ (A : Option Addr) (k c : Nat) (B : Option Addr) (m d : Nat) (z : Int), e = .returned (.tuple #[.agg #[.slice A k c, .slice B m d], .int .u64 z]) ∧ SmF w' (.slice A k c) (.slice B m d) z l (n - l.length) ∧ Ext w w'

end Go.Proofs.Ytfoifcbaadnigaa

/-
  Contract of the document's answers on rows: a row in which a key has a value (Put).
-/
set_option linter.unusedVariables false
set_option linter.unusedSimpArgs false
namespace Go.Proofs.Ytfoifcbaadnigaa
open Go.RowKit

theorem putR_more {l : Row} {key v : Int} {x : Int × Int} (h : key < x.1) : putR (l ++ [x]) key v = putR l key v ++ [x] := by
  have h1 : ¬ x.1 < key := by omega
  simp [putR, lo, hi, List.filter_append, h, h1]
theorem putR_all {l : Row} {key v : Int} (h : ∀ y ∈ l, y.1 < key) : putR l key v = l ++ [(key, v)] := by
  have h1 : lo l key = l := List.filter_eq_self.2 (fun y hy => by simpa using h y hy)
  have h2 : hi l key = [] := List.filter_eq_nil_iff.2 (fun y hy => by have := h y hy; simp; omega)
  simp [putR, h1, h2]
theorem putR_eq {l : Row} {key v u : Int} (h : ∀ y ∈ l, y.1 < key) : putR (l ++ [(key, u)]) key v = l ++ [(key, v)] := by
  have h1 : lo l key = l := List.filter_eq_self.2 (fun y hy => by simpa using h y hy)
  have h2 : hi l key = [] := List.filter_eq_nil_iff.2 (fun y hy => by have := h y hy; simp; omega)
  have h3 : lo (l ++ [(key, u)]) key = lo l key ++ lo [(key, u)] key := List.filter_append _ _
  have h4 : hi (l ++ [(key, u)]) key = hi l key ++ hi [(key, u)] key := List.filter_append _ _
  have h5 : lo [(key, u)] key = [] := by simp [lo]
  have h6 : hi [(key, u)] key = [] := by simp [hi]
  simp [putR, h1, h2, h3, h4, h5, h6]

/-- Up to place k: not put yet, or put. -/
def PutS (l : Row) (key v : Int) (k : Nat) (d : Bool) (o : Row) : Prop :=
  (d = false ∧ o = l.take k ∧ ∀ y ∈ l.take k, y.1 < key) ∨ (d = true ∧ o = putR (l.take k) key v ∧ ∃ y ∈ l.take k, key ≤ y.1)
theorem take_snoc {l : Row} {k : Nat} {x : Int × Int} (hx : l[k]? = some x) : l.take (k + 1) = l.take k ++ [x] := by
  rw [List.take_add_one, hx]; rfl
theorem PutS.lt {l : Row} {key v : Int} {k : Nat} {o : Row} {x : Int × Int} (h : PutS l key v k false o) (hx : l[k]? = some x) (hlt : x.1 < key) : PutS l key v (k + 1) false (o ++ [x]) := by
  rcases h with ⟨_, rfl, h⟩ | ⟨h, _⟩
  · refine .inl ⟨rfl, (take_snoc hx).symm, ?_⟩
    rw [take_snoc hx]
    intro y hy
    rcases List.mem_append.1 hy with hy | hy
    · exact h y hy
    · simp at hy; rw [hy]; exact hlt
  · cases h
theorem PutS.eq {l : Row} {key v : Int} {k : Nat} {o : Row} {u : Int} (h : PutS l key v k false o) (hx : l[k]? = some (key, u)) : PutS l key v (k + 1) true (o ++ [(key, v)]) := by
  rcases h with ⟨_, rfl, h⟩ | ⟨h, _⟩
  · refine .inr ⟨rfl, ?_, ?_⟩
    · rw [take_snoc hx, putR_eq h]
    · rw [take_snoc hx]
      exact ⟨(key, u), List.mem_append.2 (.inr (by simp)), Int.le_refl _⟩
  · cases h
theorem PutS.gt {l : Row} {key v : Int} {k : Nat} {o : Row} {x : Int × Int} (h : PutS l key v k false o) (hx : l[k]? = some x) (hgt : key < x.1) : PutS l key v (k + 1) true (o ++ [(key, v)] ++ [x]) := by
  rcases h with ⟨_, rfl, h⟩ | ⟨h, _⟩
  · refine .inr ⟨rfl, ?_, ?_⟩
    · rw [take_snoc hx, putR_more hgt, putR_all h]
    · rw [take_snoc hx]
      exact ⟨x, List.mem_append.2 (.inr (by simp)), by omega⟩
  · cases h
theorem PutS.gone {l : Row} {key v : Int} {k : Nat} {o : Row} {x : Int × Int} (hs : Srt l) (h : PutS l key v k true o) (hx : l[k]? = some x) : key < x.1 ∧ PutS l key v (k + 1) true (o ++ [x]) := by
  rcases h with ⟨h, _⟩ | ⟨_, rfl, y, hy, hk⟩
  · cases h
  · obtain ⟨i, hi⟩ := List.getElem?_of_mem hy
    have hik : i < k := by have := (List.getElem?_eq_some_iff.1 hi).1; simp at this; omega
    rw [List.getElem?_take_of_lt hik] at hi
    have h1 : key < x.1 := by have := srt_get hs hi hx hik; omega
    refine ⟨h1, .inr ⟨rfl, ?_, y, ?_, hk⟩⟩
    · rw [take_snoc hx, putR_more h1]
    · rw [take_snoc hx]
      exact List.mem_append.2 (.inl hy)
theorem PutS.end_ {l : Row} {key v : Int} {o : Row} {n : Nat} (h : PutS l key v n true o) (hn : l.length ≤ n) : o = putR l key v := by
  rcases h with ⟨h, _⟩ | ⟨_, rfl, _⟩
  · cases h
  · rw [List.take_of_length_le hn]
theorem PutS.end0 {l : Row} {key v : Int} {o : Row} {n : Nat} (h : PutS l key v n false o) (hn : l.length ≤ n) : o ++ [(key, v)] = putR l key v := by
  rcases h with ⟨_, rfl, h⟩ | ⟨h, _⟩
  · rw [List.take_of_length_le hn] at h ⊢
    rw [putR_all h]
  · cases h
theorem PutS.len {l : Row} {key v : Int} {k : Nat} {d : Bool} {o : Row} (h : PutS l key v k d o) : o.length ≤ k + 1 := by
  rcases h with ⟨_, rfl, _⟩ | ⟨_, rfl, _⟩
  · have := List.length_take_le k l; omega
  · have h1 : (putR (l.take k) key v).length ≤ (l.take k).length + 1 := by
      have h2 : ∀ m : Row, (lo m key).length + (hi m key).length ≤ m.length := by
        intro m
        induction m with
        | nil => simp [lo, hi]
        | cons x m ih =>
          unfold lo hi at *
          simp only [List.filter_cons]
          by_cases h1 : x.1 < key
          · have h2 : ¬ key < x.1 := by omega
            simp [h1, h2]; omega
          · by_cases h2 : key < x.1
            · simp [h1, h2]; omega
            · simp [h1, h2]; omega
      have := h2 (l.take k)
      simp only [putR, List.length_append, List.length_cons]; omega
    have := List.length_take_le k l
    omega

/-- The row that is being made. -/
def OutX (w : World) (base : Nat) (ex : List Nat) (s : Value) (o : Row) : Prop := RowX w base ex 43 2 s o.length (flat itc o)

set_option maxHeartbeats 3200000 in
set_option maxRecDepth 100000 in
theorem rfPut_is (A : Option Addr) (n c : Nat) (l : Row) (key v : Int) (w : World) (h : RdI w A n l) (hn : n ≤ 1000) (hs : Srt l) :
    Calls Try.prog 12 #[.slice A n c, .int .i64 key, .int .i64 v] w (RowA (putR l key v) w) := by
  have hl := Lib.hid h.len
  have HH := Lib.hid h
  have HSRT := Lib.hid hs
  obtain ⟨i0, hi0, hz0, hz1, hz2⟩ := info_parts item_info
  clear h hs
  go_enter Try.func12, Try.ntmps12
  go_wp2_with fail
  go_loopw [14, 7, 8, 10] (fun j s d _ wr => Hid (Ext w wr) ∧ ∃ (k : Nat) (b : Bool) (o : Row), k ≤ n ∧ j = .int .i64 k ∧ d = .bool b ∧ Hid (OutX wr w.heap.size [] s o) ∧ Hid (PutS l key v k b o)) (fun j _ _ _ _ => n - (intOf j).toNat)
  case atStart => exact ⟨Lib.hid ((Ext.refl _).new _), 0, false, [], Nat.zero_le _, rfl, rfl, Lib.hid (RowX.nil _ _ _ _ _ _), Lib.hid (.inl ⟨rfl, rfl, fun y hy => by simp at hy⟩)⟩
  case round =>
    obtain ⟨hx, k, b, o, hk, rfl, rfl, hO, hP⟩ := hrel
    rename World => w4
    by_cases hlt : k < n
    · obtain ⟨x, hxk⟩ : ∃ x, l[k]? = some x := ⟨_, List.getElem?_eq_getElem (by have := hl.out; omega)⟩
      obtain ⟨ad, rfl, hit⟩ := HH.out.item hxk
      obtain ⟨x1, x2⟩ := x
      obtain ⟨c0, c1⟩ := hit.to hx.out
      have HX := Lib.hid hxk
      obtain ⟨w5, hw5⟩ : ∃ w5, w5 = w4.alloc (.cells #[.int .i64 x1, .int .i64 x2] 43) := ⟨_, rfl⟩
      obtain ⟨B5, hx5, hs5⟩ := box_made hw5
      have H5 := Lib.hid hw5
      have HB5 := Lib.hid B5
      have X5 := Lib.hid (hx.out.step hx5)
      have HO5 := Lib.hid (show OutX w5 w.heap.size [w4.heap.size] _ o from RowX.add hO.out hx5 (Nat.le_refl _))
      have hlt5 := Lib.hid (show ∀ b ∈ [w4.heap.size], b < w5.heap.size by intro b hb; simp at hb; subst hb; exact B5.lt)
      have HS5 := Lib.hid hs5
      have hb5 := Lib.hid (show w.heap.size ≤ w5.heap.size from X5.out.size)
      have hlen := hP.out.len
      simp only at c0 c1
      obtain ⟨m, hm⟩ : ∃ m, m = o.length := ⟨_, rfl⟩
      have HM := Lib.hid hm
      rw [← hm] at hlen
      have hm1 : m ≤ 1001 := by omega
      unfold OutX at HO5
      rw [← hm] at HO5
      clear hxk hit hw5 B5 hx5 hs5 hO hlen hm
      have hkn : ¬ n ≤ k := by omega
      cases b with
      | true =>
        obtain ⟨hgt, hP'⟩ := hP.out.gone HSRT.out HX.out
        have HP' := Lib.hid hP'
        have hgt' : key < x1 := hgt
        have hne : ¬ x1 = key := by omega
        clear hgt hP'
        obtain ⟨w6, hw6⟩ : ∃ w6, w6 = w5.alloc (.cells #[.int .i64 x1, .int .i64 x2] 43) := ⟨_, rfl⟩
        obtain ⟨B_, hx_, hs_⟩ := box_made hw6
        have Hw6 := Lib.hid hw6
        have HRw6 := Lib.hid (show RdI w6 (some ⟨w4.heap.size + 1, 0, none⟩) 1 [(x1, x2)] by rw [hw6, ← HS5.out]; exact Rd.lit w5 #[.int .i64 x1, .int .i64 x2] 43 1 rfl)
        have HOw6 := Lib.hid (HO5.out.to hx_)
        have Xw6 := Lib.hid (X5.out.step hx_)
        have hbw6 := Lib.hid (show w.heap.size ≤ w6.heap.size from Xw6.out.size)
        have hltw6 := Lib.hid (show ∀ b ∈ [w4.heap.size], b < w6.heap.size by intro b hb; have := hlt5.out b hb; have := hx_.size; omega)
        clear hw6 hs_
        clear B_ hx_
        go_wp2_with (first
          | (at_builtin
             rw [← H5.out, ← Hw6.out]
             refine wpList_append_x _ rfl (.tmp 36) (.tmp 38) _ rfl 43 i0 _ 2 16 Try.underlying32 hi0 hz0 hz1 hz2 rfl (by omega) w.heap.size [w4.heap.size] _ m (flat itc o) rfl HOw6.out (some ⟨w4.heap.size + 1, 0, none⟩) 1 1 (flat itc [(x1, x2)]) rfl HRw6.out (flat_one itc_one _) (by simp only [maxLen]; omega) (by omega) hbw6.out hltw6.out ?_
             intro A7 c7 w7 hr7 ap7
             have HX7 := Lib.hid (ap7.old w Xw6.out (Nat.le_refl _))
             have HR7 := Lib.hid (show OutX w7 w.heap.size [] (.slice A7 (m + 1 : Nat) c7) (o ++ [(x1, x2)]) by
               unfold OutX
               rw [List.length_append, ← HM.out, ← flat_append]
               exact hr7.sub (fun b hb => by cases hb))
             clear hr7 ap7))
        go_roundw
        case rel => exact ⟨HX7, k + 1, _, o ++ [(x1, x2)], by omega, by go_num, rfl, HR7, HP'⟩
        case measure => simp [intOf]; omega
      | false =>
        by_cases hlt1 : x1 < key
        · have HP' := Lib.hid (hP.out.lt HX.out hlt1)
          have hne : ¬ x1 = key := by omega
          have hge : ¬ key ≤ x1 := by omega
          obtain ⟨w6, hw6⟩ : ∃ w6, w6 = w5.alloc (.cells #[.int .i64 x1, .int .i64 x2] 43) := ⟨_, rfl⟩
          obtain ⟨B_, hx_, hs_⟩ := box_made hw6
          have Hw6 := Lib.hid hw6
          have HRw6 := Lib.hid (show RdI w6 (some ⟨w4.heap.size + 1, 0, none⟩) 1 [(x1, x2)] by rw [hw6, ← HS5.out]; exact Rd.lit w5 #[.int .i64 x1, .int .i64 x2] 43 1 rfl)
          have HOw6 := Lib.hid (HO5.out.to hx_)
          have Xw6 := Lib.hid (X5.out.step hx_)
          have hbw6 := Lib.hid (show w.heap.size ≤ w6.heap.size from Xw6.out.size)
          have hltw6 := Lib.hid (show ∀ b ∈ [w4.heap.size], b < w6.heap.size by intro b hb; have := hlt5.out b hb; have := hx_.size; omega)
          clear hw6 hs_
          clear B_ hx_
          go_wp2_with (first
            | (at_builtin
               rw [← H5.out, ← Hw6.out]
               refine wpList_append_x _ rfl (.tmp 36) (.tmp 38) _ rfl 43 i0 _ 2 16 Try.underlying32 hi0 hz0 hz1 hz2 rfl (by omega) w.heap.size [w4.heap.size] _ m (flat itc o) rfl HOw6.out (some ⟨w4.heap.size + 1, 0, none⟩) 1 1 (flat itc [(x1, x2)]) rfl HRw6.out (flat_one itc_one _) (by simp only [maxLen]; omega) (by omega) hbw6.out hltw6.out ?_
               intro A7 c7 w7 hr7 ap7
               have HX7 := Lib.hid (ap7.old w Xw6.out (Nat.le_refl _))
               have HR7 := Lib.hid (show OutX w7 w.heap.size [] (.slice A7 (m + 1 : Nat) c7) (o ++ [(x1, x2)]) by
                 unfold OutX
                 rw [List.length_append, ← HM.out, ← flat_append]
                 exact hr7.sub (fun b hb => by cases hb))
               clear hr7 ap7))
          go_roundw
          case rel => exact ⟨HX7, k + 1, _, o ++ [(x1, x2)], by omega, by go_num, rfl, HR7, HP'⟩
          case measure => simp [intOf]; omega
        · have hge : key ≤ x1 := by omega
          obtain ⟨w6, hw6⟩ : ∃ w6, w6 = w5.alloc (.cells #[.int .i64 key, .int .i64 v] 43) := ⟨_, rfl⟩
          obtain ⟨B_, hx_, hs_⟩ := box_made hw6
          have Hw6 := Lib.hid hw6
          have HRw6 := Lib.hid (show RdI w6 (some ⟨w4.heap.size + 1, 0, none⟩) 1 [(key, v)] by rw [hw6, ← HS5.out]; exact Rd.lit w5 #[.int .i64 key, .int .i64 v] 43 1 rfl)
          have HOw6 := Lib.hid (HO5.out.to hx_)
          have Xw6 := Lib.hid (X5.out.step hx_)
          have HBw6 := Lib.hid (HB5.out.to hx_)
          have hbw6 := Lib.hid (show w.heap.size ≤ w6.heap.size from Xw6.out.size)
          have hltw6 := Lib.hid (show ∀ b ∈ [w4.heap.size], b < w6.heap.size by intro b hb; have := hlt5.out b hb; have := hx_.size; omega)
          clear hw6 hs_ hlt1
          clear B_ hx_
          by_cases hne : x1 = key
          · subst hne
            have HP' := Lib.hid (hP.out.eq HX.out)
            go_wp2_with (first
              | (at_builtin
                 rw [← H5.out, ← Hw6.out]
                 refine wpList_append_x _ rfl (.tmp 26) (.tmp 30) _ rfl 43 i0 _ 2 16 Try.underlying32 hi0 hz0 hz1 hz2 rfl (by omega) w.heap.size [w4.heap.size] _ m (flat itc o) rfl HOw6.out (some ⟨w4.heap.size + 1, 0, none⟩) 1 1 (flat itc [(x1, v)]) rfl HRw6.out (flat_one itc_one _) (by simp only [maxLen]; omega) (by omega) hbw6.out hltw6.out ?_
                 intro A7 c7 w7 hr7 ap7
                 have HX7 := Lib.hid (ap7.old w Xw6.out (Nat.le_refl _))
                 have b0 : w7.cell? ⟨w4.heap.size, 0, none⟩ = some (.int .i64 x1) := (ap7.keep _ _ (by simp) HBw6.out).cell 0
                 have HR7 := Lib.hid (show OutX w7 w.heap.size [] (.slice A7 (m + 1 : Nat) c7) (o ++ [(x1, v)]) by
                   unfold OutX
                   rw [List.length_append, ← HM.out, ← flat_append]
                   exact hr7.sub (fun b hb => by cases hb))
                 clear hr7 ap7 c0 c1))
            go_roundw
            case rel => exact ⟨HX7, k + 1, _, o ++ [(x1, v)], by omega, by go_num, rfl, HR7, HP'⟩
            case measure => simp [intOf]; omega
          · have hgt : key < x1 := by omega
            have HP' := Lib.hid (hP.out.gt HX.out hgt)
            go_wp2_with (first
              | (at_builtin
                 rw [← H5.out, ← Hw6.out]
                 refine wpList_append_x _ rfl (.tmp 26) (.tmp 30) _ rfl 43 i0 _ 2 16 Try.underlying32 hi0 hz0 hz1 hz2 rfl (by omega) w.heap.size [w4.heap.size] _ m (flat itc o) rfl HOw6.out (some ⟨w4.heap.size + 1, 0, none⟩) 1 1 (flat itc [(key, v)]) rfl HRw6.out (flat_one itc_one _) (by simp only [maxLen]; omega) (by omega) hbw6.out hltw6.out ?_
                 intro A7 c7 w7 hr7 ap7
                 have HX7 := Lib.hid (ap7.old w Xw6.out (Nat.le_refl _))
                 have HB7 := Lib.hid (ap7.keep _ _ (by simp) HBw6.out)
                 have b0 : w7.cell? ⟨w4.heap.size, 0, none⟩ = some (.int .i64 x1) := HB7.out.cell 0
                 have b1 : w7.cell? ⟨w4.heap.size, 1, none⟩ = some (.int .i64 x2) := HB7.out.cell 1
                 obtain ⟨w8, hw8⟩ : ∃ w8, w8 = w7.alloc (.cells #[.int .i64 x1, .int .i64 x2] 43) := ⟨_, rfl⟩
                 obtain ⟨B_, hx_, hs_⟩ := box_made hw8
                 have Hw8 := Lib.hid hw8
                 have HRw8 := Lib.hid (show RdI w8 (some ⟨w7.heap.size, 0, none⟩) 1 [(x1, x2)] by rw [hw8]; exact Rd.lit w7 #[.int .i64 x1, .int .i64 x2] 43 1 rfl)
                 have HR7 := Lib.hid (show RowX w8 w.heap.size [w4.heap.size] 43 2 (.slice A7 (m + 1 : Nat) c7) (m + 1) (flat itc o ++ flat itc [(key, v)]) from hr7.to hx_)
                 have Xw8 := Lib.hid (HX7.out.step hx_)
                 have hbw8 := Lib.hid (show w.heap.size ≤ w8.heap.size from Xw8.out.size)
                 have hltw8 := Lib.hid (show ∀ b ∈ [w4.heap.size], b < w8.heap.size by intro b hb; have h1 := HB7.out.lt; have h2 := hx_.size; simp at hb; subst hb; omega)
                 clear hr7 ap7 c0 c1 hw8 hs_
                 clear B_ hx_)
              | (at_builtin
                 rw [← Hw8.out]
                 refine wpList_append_x _ rfl (.tmp 36) (.tmp 38) _ rfl 43 i0 _ 2 16 Try.underlying32 hi0 hz0 hz1 hz2 rfl (by omega) w.heap.size [w4.heap.size] _ (m + 1) (flat itc o ++ flat itc [(key, v)]) rfl HR7.out (some ⟨w7.heap.size, 0, none⟩) 1 1 (flat itc [(x1, x2)]) rfl HRw8.out (flat_one itc_one _) (by simp only [maxLen]; omega) (by omega) hbw8.out hltw8.out ?_
                 intro A9 c9 w9 hr9 ap9
                 have HX9 := Lib.hid (ap9.old w Xw8.out (Nat.le_refl _))
                 have HR9 := Lib.hid (show OutX w9 w.heap.size [] (.slice A9 (m + 1 + 1 : Nat) c9) (o ++ [(key, v)] ++ [(x1, x2)]) by
                   unfold OutX
                   rw [List.length_append, List.length_append, ← HM.out, ← flat_append, ← flat_append]
                   exact hr9.sub (fun b hb => by cases hb))
                 clear hr9 ap9 b0 b1))
            go_roundw
            case rel => exact ⟨HX9, k + 1, _, o ++ [(key, v)] ++ [(x1, x2)], by omega, by go_num, rfl, HR9, HP'⟩
            case measure => simp [intOf]; omega
    · have hge : n ≤ k := by omega
      have hkn : k = n := by omega
      subst hkn
      cases b with
      | true =>
        have he := hP.out.end_ (by have := hl.out; omega)
        obtain ⟨A', c', hs', h1, h2⟩ := RowX.slice hO.out
        subst hs'
        have HF : RowA (putR l key v) w (.returned (.slice A' (o.length : Nat) c')) w4 := by
          rw [← he]
          exact ⟨A', c', rfl, RowX.rd hO.out, h1, h2, hx.out⟩
        have HF := Lib.hid HF
        clear he hO hP
        go_wp2_with fail
        go_ret
        exact HF.out
      | false =>
        have he := hP.out.end0 (by have := hl.out; omega)
        have hlen := hP.out.len
        obtain ⟨w5, hw5⟩ : ∃ w5, w5 = w4.alloc (.cells #[.int .i64 key, .int .i64 v] 43) := ⟨_, rfl⟩
        obtain ⟨B_, hx_, hs_⟩ := box_made hw5
        have Hw5 := Lib.hid hw5
        have HRw5 := Lib.hid (show RdI w5 (some ⟨w4.heap.size, 0, none⟩) 1 [(key, v)] by rw [hw5]; exact Rd.lit w4 #[.int .i64 key, .int .i64 v] 43 1 rfl)
        have HOw5 := Lib.hid (RowX.to hO.out hx_)
        have Xw5 := Lib.hid (hx.out.step hx_)
        have hbw5 := Lib.hid (show w.heap.size ≤ w5.heap.size from Xw5.out.size)
        have HE := Lib.hid he
        obtain ⟨m, hm⟩ : ∃ m, m = o.length := ⟨_, rfl⟩
        have HM := Lib.hid hm
        rw [← hm] at hlen HOw5
        have hm1 : m ≤ 1001 := by omega
        clear hw5 hs_ hP hO he hlen hm
        clear B_ hx_
        go_wp2_with (first
          | (at_builtin
             rw [← Hw5.out]
             refine wpList_append_x _ rfl (.tmp 43) (.tmp 47) _ rfl 43 i0 _ 2 16 Try.underlying32 hi0 hz0 hz1 hz2 rfl (by omega) w.heap.size [] _ m (flat itc o) rfl HOw5.out (some ⟨w4.heap.size, 0, none⟩) 1 1 (flat itc [(key, v)]) rfl HRw5.out (flat_one itc_one _) (by simp only [maxLen]; omega) (by omega) hbw5.out (fun b hb => by cases hb) ?_
             intro A7 c7 w7 hr7 ap7
             have HF := Lib.hid (show RowA (putR l key v) w (.returned (.slice A7 (m + 1 : Nat) c7)) w7 by
               have h1 : (putR l key v).length = m + 1 := by rw [← HE.out, List.length_append, ← HM.out]; rfl
               obtain ⟨A', c', hs', h2, h3⟩ := hr7.slice
               injection hs' with e1 e2 e3
               subst e1; subst e3
               refine ⟨A7, c7, by rw [h1], ?_, by omega, h3, ap7.old w Xw5.out (Nat.le_refl _)⟩
               rw [h1, ← HE.out, RdI, ← flat_append]
               exact hr7.rd)
             clear hr7 ap7))
        go_ret
        exact HF.out
end Go.Proofs.Ytfoifcbaadnigaa

/-
  Contracts of the document's answers on rows: a row without a key (Del), those below a key (Below).
-/
set_option linter.unusedVariables false
set_option linter.unusedSimpArgs false
namespace Go.Proofs.Ytfoifcbaadnigaa
open Go.RowKit

set_option maxHeartbeats 3200000 in
set_option maxRecDepth 100000 in
theorem rfDel_is (A : Option Addr) (n c : Nat) (l : Row) (key : Int) (w : World) (h : RdI w A n l) (hn : n ≤ 1000) :
    Calls Try.prog 10 #[.slice A n c, .int .i64 key] w (RowA (delR l key) w) := by
  have hl := Lib.hid h.len
  have HH := Lib.hid h
  obtain ⟨i0, hi0, hz0, hz1, hz2⟩ := info_parts item_info
  clear h
  go_enter Try.func10, Try.ntmps10
  go_wp2_with fail
  go_loopw [11, 5, 7] (fun j s _ wr => Hid (Ext w wr) ∧ ∃ (k : Nat), k ≤ n ∧ j = .int .i64 k ∧ Hid (OutX wr w.heap.size [] s (delR (l.take k) key))) (fun j _ _ _ => n - (intOf j).toNat)
  case atStart => exact ⟨Lib.hid ((Ext.refl _).new _), 0, Nat.zero_le _, rfl, Lib.hid (RowX.nil _ _ _ _ _ _)⟩
  case round =>
    obtain ⟨hx, k, hk, rfl, hO⟩ := hrel
    rename World => w4
    by_cases hlt : k < n
    · obtain ⟨x, hxk⟩ : ∃ x, l[k]? = some x := ⟨_, List.getElem?_eq_getElem (by have := hl.out; omega)⟩
      obtain ⟨ad, rfl, hit⟩ := HH.out.item hxk
      obtain ⟨x1, x2⟩ := x
      obtain ⟨c0, c1⟩ := hit.to hx.out
      have HX := Lib.hid hxk
      obtain ⟨w5, hw5⟩ : ∃ w5, w5 = w4.alloc (.cells #[.int .i64 x1, .int .i64 x2] 43) := ⟨_, rfl⟩
      obtain ⟨B5, hx5, hs5⟩ := box_made hw5
      have H5 := Lib.hid hw5
      have X5 := Lib.hid (hx.out.step hx5)
      have HS5 := Lib.hid hs5
      have HO5 := Lib.hid (show OutX w5 w.heap.size [] _ (delR (l.take k) key) from RowX.to hO.out hx5)
      have hlen : (delR (l.take k) key).length ≤ k := Nat.le_trans (List.length_filter_le _ _) (List.length_take_le k l)
      simp only at c0 c1
      obtain ⟨o, ho⟩ : ∃ o, o = delR (l.take k) key := ⟨_, rfl⟩
      rw [← ho] at HO5 hlen
      have HOe := Lib.hid ho
      obtain ⟨m, hm⟩ : ∃ m, m = o.length := ⟨_, rfl⟩
      have HM := Lib.hid hm
      rw [← hm] at hlen
      have hm1 : m ≤ 1001 := by omega
      have hkn : ¬ n ≤ k := by omega
      have HP5 := Lib.hid HO5.out
      unfold OutX at HO5
      rw [← hm] at HO5
      clear hxk hit hw5 B5 hx5 hs5 hO hlen hm ho
      by_cases hp : x1 ≠ key
      · have HE := Lib.hid (show delR (l.take (k + 1)) key = o ++ [(x1, x2)] by
          rw [take_snoc HX.out, HOe.out]; simp [delR, List.filter_append, hp])
        obtain ⟨w6, hw6⟩ : ∃ w6, w6 = w5.alloc (.cells #[.int .i64 x1, .int .i64 x2] 43) := ⟨_, rfl⟩
        obtain ⟨B_, hx_, hs_⟩ := box_made hw6
        have Hw6 := Lib.hid hw6
        have HRw6 := Lib.hid (show RdI w6 (some ⟨w4.heap.size + 1, 0, none⟩) 1 [(x1, x2)] by rw [hw6, ← HS5.out]; exact Rd.lit w5 #[.int .i64 x1, .int .i64 x2] 43 1 rfl)
        have HOw6 := Lib.hid (HO5.out.to hx_)
        have Xw6 := Lib.hid (X5.out.step hx_)
        have hbw6 := Lib.hid (show w.heap.size ≤ w6.heap.size from Xw6.out.size)
        clear hw6 hs_
        clear B_ hx_
        go_wp2_with (first
          | (at_builtin
             rw [← H5.out, ← Hw6.out]
             refine wpList_append_x _ rfl (.tmp 19) (.tmp 21) _ rfl 43 i0 _ 2 16 Try.underlying32 hi0 hz0 hz1 hz2 rfl (by omega) w.heap.size [] _ m (flat itc o) rfl HOw6.out (some ⟨w4.heap.size + 1, 0, none⟩) 1 1 (flat itc [(x1, x2)]) rfl HRw6.out (flat_one itc_one _) (by simp only [maxLen]; omega) (by omega) hbw6.out (fun b hb => by cases hb) ?_
             intro A7 c7 w7 hr7 ap7
             have HX7 := Lib.hid (ap7.old w Xw6.out (Nat.le_refl _))
             have HR7 := Lib.hid (show OutX w7 w.heap.size [] (.slice A7 (m + 1 : Nat) c7) (delR (l.take (k + 1)) key) by
               unfold OutX
               rw [HE.out, List.length_append, ← HM.out, ← flat_append]
               exact hr7)
             clear hr7 ap7))
        go_roundw
        case rel => exact ⟨HX7, k + 1, by omega, by go_num, HR7⟩
        case measure => simp [intOf]; omega
      · have HE := Lib.hid (show delR (l.take (k + 1)) key = o by
          rw [take_snoc HX.out, HOe.out]; simp [delR, List.filter_append, hp])
        have hp' : x1 = key := by omega
        subst hp'
        clear hp
        go_wp2_with fail
        try rw [← H5.out]
        go_roundw
        case rel => exact ⟨by first | exact X5 | (rw [← H5.out]; exact X5), k + 1, by omega, by go_num, by first | (rw [HE.out]; exact HP5) | (rw [HE.out, ← H5.out]; exact HP5)⟩
        case measure => simp [intOf]; omega
    · have hge : n ≤ k := by omega
      have hkn : k = n := by omega
      subst hkn
      obtain ⟨A', c', hs', h1, h2⟩ := RowX.slice hO.out
      subst hs'
      have he : l.take k = l := List.take_of_length_le (by have := hl.out; omega)
      have HF : RowA (delR l key) w (.returned (.slice A' ((delR (l.take k) key).length : Nat) c')) w4 := by
        have h3 := RowX.rd hO.out
        rw [he] at h1 h3 ⊢
        exact ⟨A', c', rfl, h3, h1, h2, hx.out⟩
      have HF := Lib.hid HF
      clear hO he
      go_wp2_with fail
      go_ret
      exact HF.out

end Go.Proofs.Ytfoifcbaadnigaa

/-
  Mathematics: the row of keys that are put one after another does not hang on their order.
-/
set_option linter.unusedVariables false
set_option linter.unusedSimpArgs false
namespace Go.Proofs.Ytfoifcbaadnigaa
open Go.RowKit

def shp (ks : List Int) : Row := ks.foldl (fun r k => putR r k k) []
theorem shp_snoc (ks : List Int) (k : Int) : shp (ks ++ [k]) = putR (shp ks) k k := by simp [shp, List.foldl_append]
theorem shp_all (ks : List Int) : ∀ js, js = ks.reverse → Srt (shp js.reverse.reverse) := by
  intro js _
  rw [List.reverse_reverse]
  suffices h : ∀ (l : List Int) (r : Row), Srt r → Srt (l.foldl (fun r k => putR r k k) r) from h js [] (by simp [Srt])
  intro l
  induction l with
  | nil => intro r h; exact h
  | cons k l ih => intro r h; exact ih _ (h.putR k k)
theorem shp_srt (ks : List Int) : Srt (shp ks) := by
  have := shp_all ks.reverse ks (by simp)
  simpa using this
theorem mem_put {l : Row} {k v : Int} {x : Int × Int} : x ∈ putR l k v ↔ x = (k, v) ∨ (x ∈ l ∧ x.1 ≠ k) := by
  unfold putR
  rw [List.mem_append, List.mem_cons, mem_lo, mem_hi]
  constructor
  · rintro (⟨h1, h2⟩ | h | ⟨h1, h2⟩)
    · exact .inr ⟨h1, by omega⟩
    · exact .inl h
    · exact .inr ⟨h1, by omega⟩
  · rintro (h | ⟨h1, h2⟩)
    · exact .inr (.inl h)
    · rcases (by omega : x.1 < k ∨ k < x.1) with h | h
      · exact .inl ⟨h1, h⟩
      · exact .inr (.inr ⟨h1, h⟩)
theorem shp_mem (ks : List Int) (x : Int × Int) : x ∈ shp ks ↔ x.1 ∈ ks ∧ x.2 = x.1 := by
  suffices h : ∀ (l : List Int) (r : Row), (x ∈ l.foldl (fun r k => putR r k k) r ↔ (x.1 ∈ l ∧ x.2 = x.1) ∨ (x.1 ∉ l ∧ x ∈ r)) by
    have := h ks []
    unfold shp
    rw [this]
    simp
  intro l
  induction l with
  | nil => intro r; simp
  | cons k l ih =>
    intro r
    rw [List.foldl_cons, ih, mem_put]
    obtain ⟨a, b⟩ := x
    simp only [Prod.mk.injEq, List.mem_cons]
    by_cases h1 : a ∈ l
    · simp [h1]
    · by_cases h2 : a = k
      · subst h2; simp [h1]
      · simp [h1, h2]
theorem srt_ext : ∀ (a b : Row), Srt a → Srt b → (∀ x, x ∈ a ↔ x ∈ b) → a = b
  | [], [], _, _, _ => rfl
  | [], y :: b, _, _, h => by have := (h y).2 (by simp); simp at this
  | x :: a, [], _, _, h => by have := (h x).1 (by simp); simp at this
  | x :: a, y :: b, ha, hb, h => by
    have pa := List.pairwise_cons.1 ha
    have pb := List.pairwise_cons.1 hb
    have hxy : x = y := by
      have h1 := (h x).1 (by simp)
      have h2 := (h y).2 (by simp)
      rcases List.mem_cons.1 h1 with h1 | h1
      · exact h1
      · rcases List.mem_cons.1 h2 with h2 | h2
        · exact h2.symm
        · have := pb.1 x h1; have := pa.1 y h2; omega
    subst hxy
    rw [srt_ext a b pa.2 pb.2 (fun z => by
      constructor
      · intro hz
        have h1 := (h z).1 (by simp [hz])
        rcases List.mem_cons.1 h1 with h1 | h1
        · subst h1; have := pa.1 z hz; omega
        · exact h1
      · intro hz
        have h1 := (h z).2 (by simp [hz])
        rcases List.mem_cons.1 h1 with h1 | h1
        · subst h1; have := pb.1 z hz; omega
        · exact h1)]
theorem shp_len (ks : List Int) : (shp ks).length ≤ ks.length := by
  suffices h : ∀ (l : List Int) (r : Row), Srt r → (l.foldl (fun r k => putR r k k) r).length ≤ r.length + l.length by
    have := h ks [] (by simp [Srt])
    simpa [shp] using this
  intro l
  induction l with
  | nil => intro r _; simp
  | cons k l ih =>
    intro r hr
    have h1 := ih _ (hr.putR k k)
    have h2 := (put_le hr (k := k) (v := k)).1
    simp only [List.foldl_cons, List.length_cons]
    omega

/-- The key of a number. -/
def ky (z : Int) : Int := (z.tmod 50 + 50).tmod 50
theorem ky_in (z : Int) : 0 ≤ ky z ∧ ky z < 50 := by
  unfold ky
  have h1 : -50 < z.tmod 50 := Int.lt_tmod_of_pos z (by omega)
  have h2 := Int.tmod_nonneg 50 (show 0 ≤ z.tmod 50 + 50 by omega)
  have h3 := Int.tmod_lt_of_pos (z.tmod 50 + 50) (show (0 : Int) < 50 by omega)
  omega

/-- The place that stands so far on, round about. -/
def rot (s n i : Nat) : Nat := (i + s) % n
/-- The keys, and the keys from another place on. -/
def keysA (zs : List Int) : List Int := zs.map ky
def keysB (zs : List Int) (s : Nat) : List Int := (List.range zs.length).map fun i => ky (zs.getD (rot s zs.length i) 0)
theorem keys_same (zs : List Int) (s : Nat) : shp (keysA zs) = shp (keysB zs s) := by
  refine srt_ext _ _ (shp_srt _) (shp_srt _) (fun x => ?_)
  rw [shp_mem, shp_mem]
  have : x.1 ∈ keysA zs ↔ x.1 ∈ keysB zs s := by
    simp only [keysA, keysB, List.mem_map, List.mem_range]
    constructor
    · rintro ⟨z, hz, he⟩
      obtain ⟨i, hi, rfl⟩ := List.mem_iff_getElem.1 hz
      have hn : 0 < zs.length := by omega
      have hs : s % zs.length < zs.length := Nat.mod_lt _ hn
      refine ⟨(i + (zs.length - s % zs.length)) % zs.length, Nat.mod_lt _ hn, ?_⟩
      have e : rot s zs.length ((i + (zs.length - s % zs.length)) % zs.length) = i := by
        unfold rot
        rw [Nat.add_mod, Nat.mod_mod, ← Nat.add_mod, Nat.add_mod _ s, ← Nat.mod_mod s, ← Nat.add_mod, Nat.mod_mod]
        rw [show i + (zs.length - s % zs.length) + s % zs.length = i + zs.length by omega]
        rw [Nat.add_mod_right, Nat.mod_eq_of_lt hi]
      rw [e, List.getD_eq_getElem?_getD, List.getElem?_eq_getElem hi]
      exact he
    · rintro ⟨i, hi, he⟩
      have hn : 0 < zs.length := by omega
      have hr : rot s zs.length i < zs.length := Nat.mod_lt _ hn
      refine ⟨_, List.getElem_mem hr, ?_⟩
      rw [← he, List.getD_eq_getElem?_getD, List.getElem?_eq_getElem hr]; rfl
  rw [this]
end Go.Proofs.Ytfoifcbaadnigaa
