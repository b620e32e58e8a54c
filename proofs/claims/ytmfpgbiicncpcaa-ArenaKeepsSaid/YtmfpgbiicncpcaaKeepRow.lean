/-
  A whole node stored into a row of nodes that goes on growing; an arena in a variable beside two rows.
-/
import Derived.Test.YtmfpgbiicncpcaaKeepMath
import Derived.Laws.OwnMore
set_option linter.unusedVariables false
set_option linter.unusedSimpArgs false
namespace Go.Proofs.Ytmfpgbiicncpcaa
open Go.RowKit

theorem own_cells {base : Nat} {e : TypeId} {size g n cap : Nat} : ∀ (cs : List Value) (o : Nat) (W : World) (xs : List Value), W.ownsRow base e size (.slice (some ⟨g, 0, none⟩) n cap) n xs →
    ∃ ys, (W.setCells g o cs).ownsRow base e size (.slice (some ⟨g, 0, none⟩) n cap) n ys ∧ ys.length = xs.length ∧ (∀ j, j < o → ys[j]? = xs[j]?) ∧ (∀ j, o + cs.length ≤ j → ys[j]? = xs[j]?) ∧ (∀ j, j < cs.length → o + j < xs.length → ys[o + j]? = cs[j]?)
  | [], o, W, xs, h => ⟨xs, h, rfl, fun _ _ => rfl, fun _ _ => rfl, fun j hj => by simp at hj⟩
  | c :: cs, o, W, xs, h => by
    obtain ⟨ys, h1, h2, h3, h4, h5⟩ := own_cells cs (o + 1) _ _ (h.stored o c).1
    refine ⟨ys, h1, by rw [h2, List.length_set], fun j hj => ?_, fun j hj => ?_, fun j hj hl => ?_⟩
    · rw [h3 j (by omega), List.getElem?_set_ne (by omega)]
    · simp only [List.length_cons] at hj
      rw [h4 j (by omega), List.getElem?_set_ne (by omega)]
    · cases j with
      | zero =>
        rw [Nat.add_zero] at hl ⊢
        rw [h3 o (by omega), List.getElem?_set_self hl]
        rfl
      | succ j =>
        simp only [List.length_cons] at hj
        have := h5 j (by omega) (by rw [List.length_set]; omega)
        rw [show o + (j + 1) = o + 1 + j by omega, this]
        simp

theorem own_put {W : World} {base g n cap i : Nat} {ns : List Nd} (h : W.ownsRow base 30 16 (.slice (some ⟨g, 0, none⟩) n cap) n (flat Nd.cells ns)) (hi : i < ns.length) (x : Nd) :
    (W.setCells g (i * 16) x.cells).ownsRow base 30 16 (.slice (some ⟨g, 0, none⟩) n cap) n (flat Nd.cells (ns.set i x)) := by
  obtain ⟨ys, h1, h2, h3, h4, h5⟩ := own_cells x.cells (i * 16) W _ h
  have hl : (flat Nd.cells ns).length = ns.length * 16 := flat_length Nd.cells_length ns
  have : ys = flat Nd.cells (ns.set i x) := by
    refine List.ext_getElem? fun j => ?_
    by_cases hj : j < ns.length * 16
    · have hq : j / 16 < ns.length := by omega
      have hdec : j = (j / 16) * 16 + j % 16 := by omega
      have hm : j % 16 < 16 := by omega
      by_cases e : i = j / 16
      · subst e
        have e1 := h5 (j % 16) (by rw [Nd.cells_length]; exact hm) (by rw [hl]; omega)
        have e2 := flat_get Nd.cells_length (ns.set (j / 16) x) (j / 16) (j % 16) x (List.getElem?_set_self hq) hm
        rw [← hdec] at e1 e2
        rw [e1, e2]
      · have e2 := flat_get Nd.cells_length (ns.set i x) (j / 16) (j % 16) (ns[j / 16]'hq) (by rw [List.getElem?_set_ne e]; exact List.getElem?_eq_getElem hq) hm
        have e3 := flat_get Nd.cells_length ns (j / 16) (j % 16) (ns[j / 16]'hq) (List.getElem?_eq_getElem hq) hm
        rw [← hdec] at e2 e3
        rw [e2, ← e3]
        rcases Nat.lt_or_gt_of_ne e with h' | h'
        · exact h4 j (by rw [Nd.cells_length]; omega)
        · exact h3 j (by omega)
    · rw [List.getElem?_eq_none (by omega), List.getElem?_eq_none (by rw [flat_length Nd.cells_length, List.length_set]; omega)]
  rw [this] at h1
  exact h1

/-- THE OPERATION: a whole node goes into a row that owns itself. -/
theorem wpList_store_row {ops : Array Oper} {rest : List Oper} {o : Oper} {a : Act} {w : World} {Q : Exit → Act → World → Prop} (hgd : Region.wanted o (yielded ops a.tmps) = true) (x y : Operand) (ho : o.op = .store 30 x y)
    (base g n cap i : Nat) (hx : a.eval x = .pointer (some ⟨g, i * 16, none⟩)) (u : Nd) (hy : a.eval y = .agg u.arr) (ns : List Nd) (hO : w.ownsRow base 30 16 (.slice (some ⟨g, 0, none⟩) n cap) n (flat Nd.cells ns)) (hi : i < ns.length)
    (h : ∀ W, W.ownsRow base 30 16 (.slice (some ⟨g, 0, none⟩) n cap) n (flat Nd.cells (ns.set i u)) → Only g w W → wpList Try.prog ops Q rest (a.put o.dst undef) W) : wpList Try.prog ops Q (o :: rest) a w := by
  have hl : (flat Nd.cells ns).length = ns.length * 16 := flat_length Nd.cells_length ns
  have hn : (flat Nd.cells ns).length = n * 16 := hO.1
  have ht : w.there g (i * 16) u.arr.size := fun j hj => by
    have hj16 : j < 16 := hj
    refine ⟨?_, hO.frozenAt _⟩
    rw [hO.cellAt _ (by omega), List.getElem?_eq_getElem (by omega)]; rfl
  exact Go.BigFrame.wpList_want hgd fun K hK => by
    unfold Oper.wp execOp
    simp only [ho, hx, hy, Sem.run_bind, run_storeAt_mid (P := Try.prog) w g (i * 16) 30 u.arr ht (by kernel_rfl) u.arr_one, Sem.run_pure, Result.andThen_ok]
    exact hK _ _ (h _ (own_put hO hi u) (setCells_only g _ _ w w (Only.refl g w)))

/-- A variable that holds an arena, beside two rows of the call's own: all apart. -/
structure Home (W : World) (b0 n m : Nat) (ns : List Nd) (fs : List Int) (oR oS : Option Nat) : Prop where
  home : ∃ (g c d : Nat) (B : Option Addr), Bx W b0 #[.slice (some ⟨g, 0, none⟩) n c, .slice B m d] ∧ Ar W (some ⟨g, 0, none⟩) n B m ns fs ∧ g ≠ b0 ∧ (∀ q, B = some q → q.block ≠ b0) ∧
    oR ≠ some b0 ∧ oR ≠ some g ∧ (0 < m → ∀ q, B = some q → oR ≠ some q.block) ∧ oS ≠ some b0 ∧ oS ≠ some g ∧ (0 < m → ∀ q, B = some q → oS ≠ some q.block)

theorem Home.to {W W' : World} {b0 n m : Nat} {ns : List Nd} {fs : List Int} {oR oS : Option Nat} (h : Home W b0 n m ns fs oR oS) (hx : Ext W W') : Home W' b0 n m ns fs oR oS := by
  obtain ⟨g, c, d, B, h1, h2, h3, h4, h5⟩ := h.home
  exact ⟨g, c, d, B, h1.to hx, h2.to hx, h3, h4, h5⟩
theorem Home.lt {W : World} {b0 n m : Nat} {ns : List Nd} {fs : List Int} {oR oS : Option Nat} (h : Home W b0 n m ns fs oR oS) : b0 < W.heap.size := by
  obtain ⟨g, c, d, B, h1, _⟩ := h.home
  exact h1.lt
theorem Home.only {W W' : World} {b0 n m k : Nat} {ns : List Nd} {fs : List Int} {oR oS : Option Nat} (h : Home W b0 n m ns fs oR oS) (ho : Only k W W') (hk : oR = some k ∨ oS = some k) : Home W' b0 n m ns fs oR oS := by
  obtain ⟨g, c, d, B, h1, h2, h3, h4, h5, h6, h7, h8, h9, h10⟩ := h.home
  have e1 : b0 ≠ k := fun e => by subst e; rcases hk with hk | hk <;> contradiction
  have e2 : g ≠ k := fun e => by subst e; rcases hk with hk | hk <;> contradiction
  have e3 : Rd W' 1 B m (Ks .i64 fs) := by
    rcases Nat.eq_zero_or_pos m with e | e
    · subst e
      have hf : fs = [] := List.eq_nil_of_length_eq_zero h2.lenF
      subst hf
      exact Rd.nil _ _ _
    · exact ho.rd h2.free (fun q hq ek => by
        rcases hk with hk | hk
        · exact h7 e q hq (by rw [hk, ek])
        · exact h10 e q hq (by rw [hk, ek]))
  exact ⟨g, c, d, B, ho.bx h1 e1, ⟨ho.rd h2.nodes (fun q hq => by injection hq with hq; subst hq; exact e2), e3, h2.ok⟩, h3, h4, h5, h6, h7, h8, h9, h10⟩
/-- The first row grows. -/
theorem Home.growR {W W' : World} {b0 n m : Nat} {ns : List Nd} {fs : List Int} {oR oS o' : Option Nat} (h : Home W b0 n m ns fs oR oS) (hn : 0 < n) (hg : W.grownBy W' oR) (hat : o' = oR ∨ o' = some W.heap.size) : Home W' b0 n m ns fs o' oS := by
  obtain ⟨g, c, d, B, h1, h2, h3, h4, h5, h6, h7, h8, h9, h10⟩ := h.home
  have hgl : g < W.heap.size := by
    obtain ⟨x, hx⟩ : ∃ x, ns[0]? = some x := ⟨_, List.getElem?_eq_getElem (by rw [h2.len]; exact hn)⟩
    obtain ⟨ad, ha, hc⟩ := h2.nodeAt hx
    obtain rfl := Option.some.inj ha
    have := World.block_lt_of_cell? W _ hc.kc
    rw [addr_block] at this
    exact this
  have hBl : 0 < m → ∀ q, B = some q → q.block < W.heap.size := fun hm q hq => by
    obtain ⟨y, hy⟩ : ∃ y, fs[0]? = some y := ⟨_, List.getElem?_eq_getElem (by rw [h2.lenF]; exact hm)⟩
    obtain ⟨ad, ha, hc⟩ := h2.freeAt hy
    rw [hq] at ha
    obtain rfl := Option.some.inj ha
    have := World.block_lt_of_cell? W _ hc
    rw [addr_block] at this
    exact this
  have e3 : Rd W' 1 B m (Ks .i64 fs) := by
    rcases Nat.eq_zero_or_pos m with e | e
    · subst e
      have hf : fs = [] := List.eq_nil_of_length_eq_zero h2.lenF
      subst hf
      exact Rd.nil _ _ _
    · exact h2.free.grown hg (h7 e)
  have hb := h1.lt
  refine ⟨g, c, d, B, h1.grown hg h5, ⟨h2.nodes.grown hg (fun q hq => by injection hq with hq; subst hq; exact h6), e3, h2.ok⟩, h3, h4, ?_, ?_, fun hm q hq => ?_, h8, h9, h10⟩
  · rcases hat with rfl | rfl
    · exact h5
    · intro e; injection e with e; omega
  · rcases hat with rfl | rfl
    · exact h6
    · intro e; injection e with e; omega
  · rcases hat with rfl | rfl
    · exact h7 hm q hq
    · have := hBl hm q hq
      intro e; injection e with e; omega
theorem Home.swap {W : World} {b0 n m : Nat} {ns : List Nd} {fs : List Int} {oR oS : Option Nat} (h : Home W b0 n m ns fs oR oS) : Home W b0 n m ns fs oS oR := by
  obtain ⟨g, c, d, B, h1, h2, h3, h4, h5, h6, h7, h8, h9, h10⟩ := h.home
  exact ⟨g, c, d, B, h1, h2, h3, h4, h8, h9, h10, h5, h6, h7⟩
/-- Another arena, newer than both rows, goes into the variable. -/
theorem Home.put {W : World} {b0 g c d n m : Nat} {B : Option Addr} {u v : Value} {ns : List Nd} {fs : List Int} {oR oS : Option Nat} (hb : Bx W b0 #[u, v]) (hA : Ar W (some ⟨g, 0, none⟩) n B m ns fs) (lo : Nat) (h1 : lo ≤ g) (h2 : ∀ q, B = some q → lo ≤ q.block) (h0 : b0 < lo)
    (hR : ∀ k, oR = some k → k < lo) (hS : ∀ k, oS = some k → k < lo) (hR0 : oR ≠ some b0) (hS0 : oS ≠ some b0) :
    Home ((W.setCell ⟨b0, 0, none⟩ (.slice (some ⟨g, 0, none⟩) n c)).setCell ⟨b0, 1, none⟩ (.slice B m d)) b0 n m ns fs oR oS := by
  have hAr : Ar ((W.setCell ⟨b0, 0, none⟩ (.slice (some ⟨g, 0, none⟩) n c)).setCell ⟨b0, 1, none⟩ (.slice B m d)) (some ⟨g, 0, none⟩) n B m ns fs :=
    ⟨(Only.two _ _ _ _).rd hA.nodes (fun q hq => by injection hq with hq; subst hq; show g ≠ b0; omega), (Only.two _ _ _ _).rd hA.free (fun q hq => by have := h2 q hq; omega), hA.ok⟩
  exact ⟨g, c, d, B, hb.two _ _, hAr, by omega, fun q hq => by have := h2 q hq; omega, hR0, fun e => by have := hR _ e; omega, fun _ q hq e => by have := hR _ e; have := h2 q hq; omega, hS0, fun e => by have := hS _ e; omega, fun _ q hq e => by have := hS _ e; have := h2 q hq; omega⟩

end Go.Proofs.Ytmfpgbiicncpcaa
