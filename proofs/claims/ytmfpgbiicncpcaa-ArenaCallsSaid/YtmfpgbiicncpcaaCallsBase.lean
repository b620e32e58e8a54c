/-
  Words for the pieces of ArenaCalls.
-/
import Derived.Test.YtmfpgbiicncpcaaArMake3
import Derived.Test.YtmfpgbiicncpcaaLawReaches
import Derived.Test.YtmfpgbiicncpcaaVisit
import Derived.Test.YtmfpgbiicncpcaaApp0
import Derived.Deep.RegionHeld3
set_option linter.unusedVariables false
set_option linter.unusedSimpArgs false
namespace Go.Proofs.Ytmfpgbiicncpcaa
open Go.RowKit

theorem szA' (W : World) (o : Obj) : (W.alloc o).heap.size = W.heap.size + 1 := by simp
theorem szD' (W : World) : W.drew.heap.size = W.heap.size := rfl
def findReg (k : Nat) : Code → Option Code
  | .region id ops b => if id == k then some (.region id ops b) else none
  | .loop c => findReg k c
  | .seq a b => match findReg k a with
    | some c => some c
    | none => findReg k b
  | .block _ c => findReg k c
  | .scope c => findReg k c
  | .cond _ a b => match findReg k a with
    | some c => some c
    | none => findReg k b
  | _ => none
def findCond (k : Nat) : Code → Option Code
  | .cond (.tmp t) a b => if t == k then some (.cond (.tmp t) a b) else match findCond k a with
    | some c => some c
    | none => findCond k b
  | .loop c => findCond k c
  | .seq a b => match findCond k a with
    | some c => some c
    | none => findCond k b
  | .block _ c => findCond k c
  | .scope c => findCond k c
  | _ => none
def fromReg (k : Nat) : Code → Option Code
  | .region id ops b => if id == k then some (.region id ops b) else none
  | .seq a b => match fromReg k a with
    | some c => some (.seq c b)
    | none => fromReg k b
  | _ => none
noncomputable def callsT (k : Nat) : Code := ((Try.f3.body.bind (fromReg k)).getD .skip)
noncomputable def callsR (k : Nat) : Code := ((Try.f3.body.bind (findReg k)).getD .skip)
noncomputable def callsI (k : Nat) : Code := ((Try.f3.body.bind (findCond k)).getD .skip)

/-- What New leaves. -/
def NewO (W : World) (b : Nat) (size e : Int) : Prop :=
  (¬ (1 ≤ size ∧ size ≤ 512) ∧ e = 1 ∧ Bx W b #[.slice none 0 0, .slice none 0 0]) ∨
  (∃ (N g c h d : Nat), size = N ∧ 1 ≤ N ∧ N ≤ 512 ∧ e = 0 ∧ Bx W b #[.slice (some ⟨g, 0, none⟩) N c, .slice (some ⟨h, 0, none⟩) N d] ∧ Ar W (some ⟨g, 0, none⟩) N (some ⟨h, 0, none⟩) N (List.replicate N (bare 0)) (down N))
theorem NewO.to {W W' : World} {b : Nat} {size e : Int} (h : NewO W b size e) (hx : Ext W W') : NewO W' b size e := by
  rcases h with ⟨h1, h2, h3⟩ | ⟨N, g, c, h', d, h1, h2, h3, h4, h5, h6⟩
  · exact .inl ⟨h1, h2, h3.to hx⟩
  · exact .inr ⟨N, g, c, h', d, h1, h2, h3, h4, h5.to hx, h6.to hx⟩
/-- What Get leaves. -/
def GetO (W : World) (b : Nat) (ns : List Nd) (r f : Int) : Prop :=
  ∃ z : Nd, Bx W b z.arr ∧ ((f = 0 ∧ ∃ p, Got ns r p z) ∨ (f = 4 ∧ z = bare 0 ∧ Gone ns r))
theorem GetO.to {W W' : World} {b : Nat} {ns : List Nd} {r f : Int} (h : GetO W b ns r f) (hx : Ext W W') : GetO W' b ns r f := by
  obtain ⟨z, h1, h2⟩ := h
  exact ⟨z, h1.to hx, h2⟩
/-- What Make leaves, newer than lo. -/
def MakeO (lo : Nat) (W : World) (b : Nat) (s k : Int) (n m : Nat) (ns : List Nd) (fs : List Int) (x : Nd) : Prop :=
  lo ≤ b ∧ ((k ≠ 0 ∧ (k = 2 ↔ (ArMay ns fs ∧ x.Makes)) ∧ (k = 1 ↔ ¬ (ArMay ns fs ∧ x.Makes)) ∧ (k = 2 → fs = []) ∧ s = 0 ∧ Bx W b #[.slice none 0 0, .slice none 0 0]) ∨
  (∃ (m' p : Nat) (old : Nd) (g c' : Nat) (B' : Option Addr), k = 0 ∧ m = m' + 1 ∧ fs[m']? = some (p : Int) ∧ ns[p]? = some old ∧ ArMay ns fs ∧ x.Makes ∧ s = 65536 * old.g + p + 1 ∧ Bx W b #[.slice (some ⟨g, 0, none⟩) n c', .slice B' m' m'] ∧ Ar W (some ⟨g, 0, none⟩) n B' m' (ns.set p (x.gen old.g)) (fs.take m') ∧ lo ≤ g ∧ ∀ q, B' = some q → lo ≤ q.block))
theorem MakeO.to {lo : Nat} {W W' : World} {b n m : Nat} {s k : Int} {ns : List Nd} {fs : List Int} {x : Nd} (h : MakeO lo W b s k n m ns fs x) (hx : Ext W W') : MakeO lo W' b s k n m ns fs x := by
  refine ⟨h.1, ?_⟩
  rcases h.2 with ⟨h1, h2, h3, h4, h5, h6⟩ | ⟨m', p, old, g, c', B', h1, h2, h3, h4, h5, h6, h7, h8, h9, h10⟩
  · exact .inl ⟨h1, h2, h3, h4, h5, h6.to hx⟩
  · exact .inr ⟨m', p, old, g, c', B', h1, h2, h3, h4, h5, h6, h7, h8.to hx, h9.to hx, h10⟩
theorem MakeO.only {lo j : Nat} {W W' : World} {b n m : Nat} {s k : Int} {ns : List Nd} {fs : List Int} {x : Nd} (h : MakeO lo W b s k n m ns fs x) (ho : Only j W W') (hj : j < lo) : MakeO lo W' b s k n m ns fs x := by
  have hb := h.1
  refine ⟨hb, ?_⟩
  rcases h.2 with ⟨h1, h2, h3, h4, h5, h6⟩ | ⟨m', p, old, g, c', B', h1, h2, h3, h4, h5, h6, h7, h8, h9, h10, h11⟩
  · exact .inl ⟨h1, h2, h3, h4, h5, ho.bx h6 (by omega)⟩
  · exact .inr ⟨m', p, old, g, c', B', h1, h2, h3, h4, h5, h6, h7, ho.bx h8 (by omega), ⟨ho.rd h9.nodes (fun q hq => by injection hq with hq; subst hq; show g ≠ j; omega), ho.rd h9.free (fun q hq => by have := h11 q hq; omega), h9.ok⟩, h10, h11⟩
/-- What Reach leaves. -/
def ReachO (W : World) (v : Value) (h : Int) (ns : List Nd) (fs refs : List Int) : Prop :=
  (¬ ArMay ns fs ∧ h = 1 ∧ v = .slice none 0 0) ∨ (ArMay ns fs ∧ h = 0 ∧ ∃ P q, v = .slice P (reached ns refs).length q ∧ Rd W 1 P (reached ns refs).length (Ks .i64 (reached ns refs)))
theorem ReachO.to {W W' : World} {v : Value} {h : Int} {ns : List Nd} {fs refs : List Int} (k : ReachO W v h ns fs refs) (hx : Ext W W') : ReachO W' v h ns fs refs := by
  rcases k with k | ⟨h1, h2, P, q, h3, h4⟩
  · exact .inl k
  · exact .inr ⟨h1, h2, P, q, h3, h4.to hx⟩
/-- The place that At tells. -/
def AtO (ns : List Nd) (r a : Int) : Prop := (∃ (p : Nat) (x : Nd), a = p ∧ Got ns r p x) ∨ (a = -1 ∧ Gone ns r)
theorem at_all (A : Option Addr) (n c m d : Nat) (B : Option Addr) (ns : List Nd) (r : Int) (w : World) (h0 : 0 ≤ r) (h1 : r ≤ 18446744073709551615) (h : Rd w 16 A n (flat Nd.cells ns)) :
    Calls Try.prog 15 #[.agg #[.slice A n c, .slice B m d], .int .u64 r] w fun e w' => (∃ a, e = .returned (.int .i64 a) ∧ AtO ns r a) ∧ Ext w w' := by
  cases hg : gotF ns r with
  | none => exact (at_no A n c m d B ns r w h0 h1 h (gotF_none.1 hg)).mono fun e w' ⟨he, hx⟩ => ⟨⟨-1, he, .inr ⟨rfl, gotF_none.1 hg⟩⟩, hx⟩
  | some px =>
    obtain ⟨p, x⟩ := px
    exact (at_yes A n c m d B ns r p x w h0 h1 h (gotF_some.1 hg)).mono fun e w' ⟨he, hx⟩ => ⟨⟨p, he, .inl ⟨p, x, rfl, gotF_some.1 hg⟩⟩, hx⟩

theorem Bx.genTo {W : World} {b : Nat} {z : Nd} (h : Bx W b z.arr) (u : Int) : Bx (W.setCell ⟨b, 1, none⟩ (.int .i64 u)) b (z.gen u).arr := h.set (j := 1) (by simp [Nd.arr]) (.int .i64 u)
theorem wellp_gen0 (x : Nd) (hk : 1 ≤ x.k ∧ x.k ≤ 100) : (x.gen 0).WellP ↔ x.Makes := by
  constructor
  · rintro ⟨h1, _, h3, h4⟩
    exact ⟨hk.1, hk.2, h3, h4, h1⟩
  · rintro ⟨_, _, h3, h4, h1⟩
    exact ⟨h1, ⟨by show (0 : Int) ≤ 0; omega, by show (0 : Int) ≤ 1048576; omega⟩, h3, h4⟩

end Go.Proofs.Ytmfpgbiicncpcaa
