/-
  Two rows of the call's own that grow in one region, beside an arena in a variable and a node in another one.
-/
import Derived.Test.YtmfpgbiicncpcaaKeepRow
import Derived.Test.YtmfpgbiicncpcaaApp0
set_option linter.unusedVariables false
set_option linter.unusedSimpArgs false
namespace Go.Proofs.Ytmfpgbiicncpcaa
open Go.RowKit

theorem addrAdd0 (p : Addr) : p.add 0 = p := by unfold Addr.add; split <;> simp_all
theorem szA (W : World) (o : Obj) : (W.alloc o).heap.size = W.heap.size + 1 := by simp
theorem szD (W : World) : W.drew.heap.size = W.heap.size := rfl

/-- A node with a number and a first child. -/
def mk9 (kk at_ last : Int) : Nd := ⟨kk, 0, at_, 0, 0, last, 0, 0, 0, 0, 0, 0, 0, 0, 0, 0⟩
theorem mk9_makes {kk at_ last : Int} (h1 : 1 ≤ kk) (h2 : kk ≤ 100) (hl : RefMay last) : (mk9 kk at_ last).Makes :=
  ⟨h1, h2, ⟨by simp [mk9], by simp [mk9]⟩, ⟨by simp [mk9], by simp [mk9]⟩, fun r hr => by
    simp [mk9, Nd.kids] at hr
    rcases hr with rfl | rfl
    · exact hl
    · exact .inl rfl⟩
theorem mk9_ok {kk at_ last : Int} (h0 : 0 ≤ last) (h1 : last ≤ 18446744073709551615) : (mk9 kk at_ last).Ok := fun r hr => by
  simp [mk9, Nd.kids] at hr
  rcases hr with rfl | rfl <;> omega

theorem ref_info : (Try.prog.info? 27).map (fun i => (i.zero, i.size, i.bytes)) = some (some (.int .u64 0), 1, 8) := by kernel_rfl
theorem own_grown {W W' : World} {base : Nat} {e : TypeId} {size n : Nat} {v : Value} {xs : List Value} {o : Option Nat} (h : W.ownsRow base e size v n xs) (hg : W.grownBy W' o) (hne : ∀ k, o = some k → v.ownBlock ≠ some k) : W'.ownsRow base e size v n xs := by
  cases o with
  | none => exact own_ext h (Ext.of_grown hg)
  | some k => exact own_only h hg (hne k rfl)

structure Zn (w W : World) (b0 b18 N m : Nat) (ns : List Nd) (fs : List Int) (x : Nd) (v1 : Value) (n1 : Nat) (xs1 : List Int) (v2 : Value) (n2 : Nat) (nds : List Nd) : Prop where
  refs : W.ownsRow w.heap.size 27 1 v1 n1 (Us xs1)
  nodes : W.ownsRow w.heap.size 30 16 v2 n2 (flat Nd.cells nds)
  two : ∀ k, v1.ownBlock = some k → v2.ownBlock ≠ some k
  home : Home W b0 N m ns fs v1.ownBlock v2.ownBlock
  box : Bx W b18 x.arr
  off1 : v1.ownBlock ≠ some b18
  off2 : v2.ownBlock ≠ some b18
  ext : Ext w W

section
variable {w W W' : World} {b0 b18 N m n1 n2 : Nat} {ns nds : List Nd} {fs xs1 : List Int} {x : Nd} {v1 v2 : Value}
theorem Zn.to (h : Zn w W b0 b18 N m ns fs x v1 n1 xs1 v2 n2 nds) (hx : Ext W W') : Zn w W' b0 b18 N m ns fs x v1 n1 xs1 v2 n2 nds :=
  ⟨own_ext h.refs hx, own_ext h.nodes hx, h.two, h.home.to hx, h.box.to hx, h.off1, h.off2, h.ext.step hx⟩
theorem Zn.grow1 (h : Zn w W b0 b18 N m ns fs x v1 n1 xs1 v2 n2 nds) (hN : 0 < N) {v' : Value} {r : Int} (h1 : W'.ownsRow w.heap.size 27 1 v' (n1 + 1) (Us xs1 ++ Us [r])) (hg : W.grownBy W' v1.ownBlock) (hat : v'.ownBlock = v1.ownBlock ∨ v'.ownBlock = some W.heap.size) :
    Zn w W' b0 b18 N m ns fs x v' (n1 + 1) (xs1 ++ [r]) v2 n2 nds := by
  refine ⟨by rw [show Us (xs1 ++ [r]) = Us xs1 ++ Us [r] by simp [Us]]; exact h1, own_grown h.nodes hg h.two, fun k hk => ?_, h.home.growR hN hg hat, h.box.grown hg h.off1, ?_, h.off2, own_back h.ext h.ext.size hg (fun k hk => (h.refs.lt k hk).1)⟩
  · rcases hat with e | e
    · exact h.two k (by rw [← e]; exact hk)
    · intro e2
      have := (h.nodes.lt k e2).2
      rw [e] at hk
      injection hk with hk
      omega
  · rcases hat with e | e
    · rw [e]; exact h.off1
    · rw [e]
      intro e2
      have := h.box.lt
      injection e2 with e2
      omega
theorem Zn.grow2 (h : Zn w W b0 b18 N m ns fs x v1 n1 xs1 v2 n2 nds) (hN : 0 < N) {v' : Value} {y : Nd} (h1 : W'.ownsRow w.heap.size 30 16 v' (n2 + 1) (flat Nd.cells nds ++ flat Nd.cells [y])) (hg : W.grownBy W' v2.ownBlock) (hat : v'.ownBlock = v2.ownBlock ∨ v'.ownBlock = some W.heap.size) :
    Zn w W' b0 b18 N m ns fs x v1 n1 xs1 v' (n2 + 1) (nds ++ [y]) := by
  refine ⟨own_grown h.refs hg (fun k hk e => h.two k e hk), by rw [← flat_append]; exact h1, fun k hk => ?_, (h.home.swap.growR hN hg hat).swap, h.box.grown hg h.off2, h.off1, ?_, own_back h.ext h.ext.size hg (fun k hk => (h.nodes.lt k hk).1)⟩
  · rcases hat with e | e
    · rw [e]; exact h.two k hk
    · rw [e]
      intro e2
      have := (h.refs.lt k hk).2
      injection e2 with e2
      omega
  · rcases hat with e | e
    · rw [e]; exact h.off2
    · rw [e]
      intro e2
      have := h.box.lt
      injection e2 with e2
      omega

theorem Bx.rdR {b : Nat} {r : Int} (h : Bx W b #[.int .u64 r]) : Rd W 1 (some ⟨b, 0, none⟩) 1 (Us [r]) :=
  ⟨by simp [Us], fun j u hu => ⟨_, rfl, by rw [addr_zero, h.cell j]; simpa [Us] using hu⟩⟩
theorem Bx.rdN {b : Nat} {y : Nd} (h : Bx W b y.arr) : Rd W 16 (some ⟨b, 0, none⟩) 1 (flat Nd.cells [y]) :=
  ⟨by simp [flat, Nd.cells], fun j u hu => ⟨_, rfl, by rw [addr_zero, h.cell j, Nd.arr_get]; simpa [flat] using hu⟩⟩
theorem Bx.litR {b : Nat} {r : Int} {t : TypeId} (hb : b = W.heap.size) : Bx (W.alloc (.cells #[.int .u64 r] t)) b #[.int .u64 r] := by
  subst hb
  exact Bx.new W _ t
theorem Bx.litN {b : Nat} {cs : Array Value} {t : TypeId} (hb : b = W.heap.size) : Bx (W.alloc (.cells cs t)) b cs := by
  subst hb
  exact Bx.new W _ t
/-- What older blocks keep while a row grows. -/
def Keeps (W W' : World) (o : Option Nat) : Prop := ∀ (b : Nat) (cs : Array Value), Bx W b cs → o ≠ some b → Bx W' b cs

theorem step_app_refs {ops : Array Oper} {o : Oper} {a : Act} {K : Act → World → Prop} {Q : Exit → Act → World → Prop} {E : Prop} (hgd : o.guard = none) (s y : Operand)
    (ho : o.op = .call { callee := .builtin .append, args := #[s, y], argTypes := #[31, 31] })
    (hz : Zn w W b0 b18 N m ns fs x v1 n1 xs1 v2 n2 nds) (hN : 0 < N) (hn : n1 ≤ 1000) (hs : a.eval s = v1) (b c : Nat) (r : Int) (hy : a.eval y = .slice (some ⟨b, 0, none⟩) 1 c) (hr : Bx W b #[.int .u64 r])
    (h : ∀ A' c' w', Zn w w' b0 b18 N m ns fs x (.slice A' (n1 + 1 : Nat) c') (n1 + 1) (xs1 ++ [r]) v2 n2 nds → Keeps W w' v1.ownBlock → W.heap.size ≤ w'.heap.size → K (a.put o.dst (.slice A' (n1 + 1 : Nat) c')) w') :
    if Region.wanted o (yielded ops a.tmps) = true then Oper.wp Try.prog o a W K Q else E := by
  have hw : Region.wanted o (yielded ops a.tmps) = true := by simp [Region.wanted, hgd]
  rw [if_pos hw]
  obtain ⟨i0, hi0, hz0, hz1, hz2⟩ := info_parts ref_info
  obtain ⟨v', w', hrun, h2, h3, h4⟩ := run_append_rd (P := Try.prog) W w.heap.size 31 o.type 27 i0 _ 1 8 Try.underlying31 hi0 hz0 hz1 hz2 rfl (by omega) v1 n1 (Us xs1) hz.refs (some ⟨b, 0, none⟩) 1 c (Us [r]) hr.rdR (Us_one _) (by simp only [maxLen]; omega) (by omega) hz.ext.size
  obtain ⟨A', c', rfl⟩ := own_slice h2
  unfold Oper.wp
  simp [execOp, ho, resolve, invoke, builtin, hs, hy, hrun, Result.andThen]
  exact h A' c' w' (hz.grow1 hN h2 h3 h4) (fun b cs hb hne => hb.grown h3 hne) h3.size
theorem step_app_nodes {ops : Array Oper} {o : Oper} {a : Act} {K : Act → World → Prop} {Q : Exit → Act → World → Prop} {E : Prop} (hgd : o.guard = none) (s y : Operand)
    (ho : o.op = .call { callee := .builtin .append, args := #[s, y], argTypes := #[22, 22] })
    (hz : Zn w W b0 b18 N m ns fs x v1 n1 xs1 v2 n2 nds) (hN : 0 < N) (hn : n2 ≤ 1000) (hs : a.eval s = v2) (b c : Nat) (z : Nd) (hy : a.eval y = .slice (some ⟨b, 0, none⟩) 1 c) (hr : Bx W b z.arr)
    (h : ∀ A' c' w', Zn w w' b0 b18 N m ns fs x v1 n1 xs1 (.slice A' (n2 + 1 : Nat) c') (n2 + 1) (nds ++ [z]) → Keeps W w' v2.ownBlock → W.heap.size ≤ w'.heap.size → K (a.put o.dst (.slice A' (n2 + 1 : Nat) c')) w') :
    if Region.wanted o (yielded ops a.tmps) = true then Oper.wp Try.prog o a W K Q else E := by
  have hw : Region.wanted o (yielded ops a.tmps) = true := by simp [Region.wanted, hgd]
  rw [if_pos hw]
  obtain ⟨i0, hi0, hz0, hz1, hz2⟩ := info_parts node_info
  obtain ⟨v', w', hrun, h2, h3, h4⟩ := run_append_rd (P := Try.prog) W w.heap.size 22 o.type 30 i0 _ 16 128 Try.underlying22 hi0 hz0 hz1 hz2 rfl (by omega) v2 n2 (flat Nd.cells nds) hz.nodes (some ⟨b, 0, none⟩) 1 c (flat Nd.cells [z]) hr.rdN (flat_one Nd.cells_one _) (by simp only [maxLen]; omega) (by omega) hz.ext.size
  obtain ⟨A', c', rfl⟩ := own_slice h2
  unfold Oper.wp
  simp [execOp, ho, resolve, invoke, builtin, hs, hy, hrun, Result.andThen]
  exact h A' c' w' (hz.grow2 hN h2 h3 h4) (fun b cs hb hne => hb.grown h3 hne) h3.size
end

/-- What a reference has: the node, or nothing. -/
def GotG (W : World) (y : Nd) (e : Ending) (w' : World) : Prop :=
  ∃ (z : Nd) (f : Int), e = .returned (.tuple #[.agg z.arr, .int .i64 f]) ∧ ((f = 0 ∧ y.k ≠ 0 ∧ z.gen 0 = y) ∨ (f = 4 ∧ y = bare 0 ∧ z = bare 0)) ∧ Ext W w'
theorem got_g {N t k : Nat} {ns : List Nd} {fs rs : List Int} {nds : List Nd} {live : Nat} {r : Int} {y : Nd} (h : Keep N t ns fs rs nds live) (ht : t < 1000) (hr : rs[k]? = some r) (hy : nds[k]? = some y) (A B : Option Addr) (n c m d : Nat) (W : World) (hA : Rd W 16 A n (flat Nd.cells ns)) :
    Calls Try.prog 11 #[.agg #[.slice A n c, .slice B m d], .int .u64 r] W (GotG W y) := by
  obtain ⟨h0, h1, h2 | h2⟩ := h.got ht hr hy
  · obtain ⟨hk, p, x, hg, hx⟩ := h2
    exact (get_yes A n c m d B ns r p x W h0 h1 hA hg).mono fun e w' ⟨h3, h4⟩ => ⟨x, 0, h3, .inl ⟨rfl, hk, hx⟩, h4⟩
  · exact (get_no A n c m d B ns r W h0 h1 hA h2.2).mono fun e w' ⟨h3, h4⟩ => ⟨bare 0, 4, h3, .inr ⟨rfl, h2.1, rfl⟩, h4⟩

end Go.Proofs.Ytmfpgbiicncpcaa
