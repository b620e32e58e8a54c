/-
  What a round of ArenaKeeps keeps, and its code.
-/
import Derived.Test.YtmfpgbiicncpcaaKeepApp
import Derived.Test.YtmfpgbiicncpcaaActOpen
import Derived.Deep.RegionHeld3
import Derived.Test.YtmfpgbiicncpcaaLawFills
set_option linter.unusedVariables false
set_option linter.unusedSimpArgs false
namespace Go.Proofs.Ytmfpgbiicncpcaa
open Go.RowKit

/-- What a round keeps: the rows of references and nodes, the arena's variable, and what they say. -/
structure InKeep (base : Nat) (wr : World) (b0 N t q live : Nat) (R S : Option Addr) (rc sc : Nat) (rs : List Int) (nds ns : List Nd) (fs : List Int) : Prop where
  refs : wr.ownsRow base 27 1 (.slice R q rc) q (Us rs)
  nodes : wr.ownsRow base 30 16 (.slice S q sc) q (flat Nd.cells nds)
  two : ∀ k, (Value.slice R q rc).ownBlock = some k → (Value.slice S q sc).ownBlock ≠ some k
  home : Home wr b0 N fs.length ns fs (Value.slice R q rc).ownBlock (Value.slice S q sc).ownBlock
  keep : Keep N t ns fs rs nds live
theorem InKeep.to {base b0 N t q live rc sc : Nat} {wr wx : World} {R S : Option Addr} {rs : List Int} {nds ns : List Nd} {fs : List Int} (h : InKeep base wr b0 N t q live R S rc sc rs nds ns fs) (hx : Ext wr wx) : InKeep base wx b0 N t q live R S rc sc rs nds ns fs :=
  ⟨own_ext h.refs hx, own_ext h.nodes hx, h.two, h.home.to hx, h.keep⟩
theorem InKeep.lenR {base b0 N t q live rc sc : Nat} {wr : World} {R S : Option Addr} {rs : List Int} {nds ns : List Nd} {fs : List Int} (h : InKeep base wr b0 N t q live R S rc sc rs nds ns fs) : rs.length = q := by
  have := h.refs.1
  simpa [Us] using this
theorem InKeep.lenS {base b0 N t q live rc sc : Nat} {wr : World} {R S : Option Addr} {rs : List Int} {nds ns : List Nd} {fs : List Int} (h : InKeep base wr b0 N t q live R S rc sc rs nds ns fs) : nds.length = q := by rw [← h.keep.same]; exact h.lenR

def LastOk (r : Int) : Prop := RefMay r ∧ 0 ≤ r ∧ r ≤ 18446744073709551615
def GotF (W : World) (y : Nd) (e : Ending) (w' : World) : Prop :=
  ∃ (z : Nd) (f : Int), e = .returned (.tuple #[.agg z.arr, .int .i64 f]) ∧ ((f = 0 ∧ y.k ≠ 0) ∨ (f = 4 ∧ y = bare 0)) ∧ Ext W w'
theorem got_f {N t k : Nat} {ns : List Nd} {fs rs : List Int} {nds : List Nd} {live : Nat} {r : Int} {y : Nd} (h : Keep N t ns fs rs nds live) (ht : t < 1000) (hr : rs[k]? = some r) (hy : nds[k]? = some y) (A B : Option Addr) (n c m d : Nat) (W : World) (hA : Rd W 16 A n (flat Nd.cells ns)) :
    Calls Try.prog 11 #[.agg #[.slice A n c, .slice B m d], .int .u64 r] W (GotF W y) := by
  obtain ⟨h0, h1, h2 | h2⟩ := h.got ht hr hy
  · obtain ⟨hk, p, x, hg, _⟩ := h2
    exact (get_yes A n c m d B ns r p x W h0 h1 hA hg).mono fun e w' ⟨h3, h4⟩ => ⟨x, 0, h3, .inl ⟨rfl, hk⟩, h4⟩
  · exact (get_no A n c m d B ns r W h0 h1 hA h2.2).mono fun e w' ⟨h3, h4⟩ => ⟨bare 0, 4, h3, .inr ⟨rfl, h2.1⟩, h4⟩

/-- What Drop leaves, newer than lo. -/
def DropK (lo N m : Nat) (ns : List Nd) (fs : List Int) (z : Int) (W : World) (A1 : Option Addr) (n1 : Nat) (B1 : Option Addr) (m1 : Nat) (f : Int) : Prop :=
  (f = 1 ∧ drops ns [z] = none) ∨ (f = 0 ∧ ∃ ns' g, drops ns [z] = some ns' ∧ A1 = some ⟨g, 0, none⟩ ∧ n1 = N ∧ m1 = m + 1 ∧ Ar W (some ⟨g, 0, none⟩) N B1 (m + 1) ns' (fs ++ [z]) ∧ lo ≤ g ∧ ∀ q, B1 = some q → lo ≤ q.block)
theorem DropK.to {lo N m n1 m1 : Nat} {ns : List Nd} {fs : List Int} {z f : Int} {W W' : World} {A1 B1 : Option Addr} (h : DropK lo N m ns fs z W A1 n1 B1 m1 f) (hx : Ext W W') : DropK lo N m ns fs z W' A1 n1 B1 m1 f := by
  rcases h with h | ⟨h0, ns', g, h1, h2, h3, h4, h5, h6⟩
  · exact .inl h
  · exact .inr ⟨h0, ns', g, h1, h2, h3, h4, h5.to hx, h6⟩
theorem DropK.two {lo N m n1 m1 b c d : Nat} {ns : List Nd} {fs : List Int} {z f : Int} {W : World} {A1 B1 : Option Addr} (h : DropK lo N m ns fs z W A1 n1 B1 m1 f) (hb : b < lo ∨ ∀ g : Nat, (A1 = some ⟨g, 0, none⟩ → b ≠ g) ∧ ∀ q, B1 = some q → b ≠ q.block) (u v : Value) : DropK lo N m ns fs z ((W.setCell ⟨b, 0, none⟩ u).setCell ⟨b, 1, none⟩ v) A1 n1 B1 m1 f := by
  rcases h with h | ⟨h0, ns', g, h1, h2, h3, h4, h5, h6, h7⟩
  · exact .inl h
  · have e1 : g ≠ b := by
      rcases hb with hb | hb
      · omega
      · exact fun e => (hb g).1 h2 e.symm
    have e2 : ∀ q, B1 = some q → q.block ≠ b := fun q hq => by
      rcases hb with hb | hb
      · have := h7 q hq; omega
      · exact fun e => (hb g).2 q hq e.symm
    exact .inr ⟨h0, ns', g, h1, h2, h3, h4, ⟨(Only.two _ _ _ _).rd h5.nodes (fun q hq => by injection hq with hq; subst hq; exact e1), (Only.two _ _ _ _).rd h5.free e2, h5.ok⟩, h6, h7⟩
theorem DropK.mono {lo lo' N m n1 m1 : Nat} {ns : List Nd} {fs : List Int} {z f : Int} {W : World} {A1 B1 : Option Addr} (h : DropK lo N m ns fs z W A1 n1 B1 m1 f) (hl : lo' ≤ lo) : DropK lo' N m ns fs z W A1 n1 B1 m1 f := by
  rcases h with h | ⟨h0, ns', g, h1, h2, h3, h4, h5, h6, h7⟩
  · exact .inl h
  · exact .inr ⟨h0, ns', g, h1, h2, h3, h4, h5, Nat.le_trans hl h6, fun q hq => Nat.le_trans hl (h7 q hq)⟩
theorem InKeep.mono {base b0 N t t' q live rc sc : Nat} {wr : World} {R S : Option Addr} {rs : List Int} {nds ns : List Nd} {fs : List Int} (h : InKeep base wr b0 N t q live R S rc sc rs nds ns fs) (ht : t ≤ t') : InKeep base wr b0 N t' q live R S rc sc rs nds ns fs :=
  ⟨h.refs, h.nodes, h.two, h.home, h.keep.mono ht⟩
theorem Rd.litB {W : World} {b : Nat} {z : Int} {t : TypeId} (hb : b = W.heap.size) : Rd (W.alloc (.cells #[.int .i64 z] t)) 1 (some ⟨b, 0, none⟩) 1 (Ks .i64 [z]) := by
  subst hb
  exact Rd.lit W #[.int .i64 z] t 1 rfl
def DropG (lo N m : Nat) (ns : List Nd) (fs : List Int) (z : Int) (W : World) (e : Ending) (w' : World) : Prop :=
  ∃ (A1 : Option Addr) (n1 c1 : Nat) (B1 : Option Addr) (m1 d1 : Nat) (f : Int), e = .returned (.tuple #[.agg #[.slice A1 n1 c1, .slice B1 m1 d1], .int .i64 f]) ∧ DropK W.heap.size N m ns fs z w' A1 n1 B1 m1 f ∧ Ext W w'
theorem drop_g (A B C : Option Addr) (n m c d : Nat) (ns : List Nd) (fs : List Int) (z : Int) (w : World) (h : Ar w A n B m ns fs) (hn : n ≤ 1000) (hm : m ≤ 1000) (hp : Rd w 1 C 1 (Ks .i64 [z])) (hmay : ArMay ns fs) :
    Calls Try.prog 23 #[.agg #[.slice A n c, .slice B m d], .slice C 1 1] w (DropG w.heap.size n m ns fs z w) := by
  refine (drop_is A B C n m c d 1 1 ns fs [z] w h hn hm (by omega) hp hmay).mono fun e w' hR => ?_
  rcases hR with ⟨h1, h2, h3⟩ | ⟨ns', h1, g, c', B', d', h2, _, _, h3, h4, h5, h6⟩
  · exact ⟨none, 0, 0, none, 0, 0, 1, h2, .inl ⟨rfl, h1⟩, h3⟩
  · exact ⟨some ⟨g, 0, none⟩, n, c', B', m + 1, d', 0, h2, .inr ⟨rfl, ns', g, h1, rfl, rfl, rfl, h3, h5, h6⟩, h4⟩

/-- What Make leaves in a round. -/
def MadeK (w3 W : World) (b : Nat) (r e : Int) (N : Nat) (ns : List Nd) (fs : List Int) (x : Nd) : Prop :=
  (e = 2 ∧ fs = []) ∨ (e = 0 ∧ ∃ (m p : Nat) (old : Nd) (g c : Nat) (B : Option Addr), fs.length = m + 1 ∧ fs[m]? = some (p : Int) ∧ ns[p]? = some old ∧ old.k = 0 ∧ r = 65536 * old.g + p + 1 ∧
    Bx W b #[.slice (some ⟨g, 0, none⟩) N c, .slice B m m] ∧ Ar W (some ⟨g, 0, none⟩) N B m (ns.set p (x.gen old.g)) (fs.take m) ∧ w3.heap.size ≤ g ∧ ∀ q, B = some q → w3.heap.size ≤ q.block)
theorem MadeK.to {w3 W W' : World} {b N : Nat} {r e : Int} {ns : List Nd} {fs : List Int} {x : Nd} (h : MadeK w3 W b r e N ns fs x) (hx : Ext W W') : MadeK w3 W' b r e N ns fs x := by
  rcases h with h | ⟨h0, m, p, old, g, c, B, h1, h2, h3, h4, h5, h6, h7, h8⟩
  · exact .inl h
  · exact .inr ⟨h0, m, p, old, g, c, B, h1, h2, h3, h4, h5, h6.to hx, h7.to hx, h8⟩

theorem lastOk_made {N t p live : Nat} {ns : List Nd} {fs rs : List Int} {nds : List Nd} {old : Nd} {rr : Int} (h : Keep N t ns fs rs nds live) (ht : t < 1000) (ho : ns[p]? = some old) (hr : rr = 65536 * old.g + p + 1) : LastOk rr := by
  have h1 := (List.getElem?_eq_some_iff.1 ho).1
  have h2 := h.may.le
  have h3 := (h.may.fits old (List.mem_of_getElem? ho)).1.1
  have h4 := h.gens old (List.mem_of_getElem? ho)
  have h5 : p < 512 := by omega
  clear h h1 h2 ho
  generalize old.g = g at hr h3 h4
  have e1 : rr % 65536 = p + 1 := by omega
  have e2 : rr / 65536 = g := by omega
  refine ⟨.inr ⟨by omega, by omega, by omega⟩, by omega, by omega⟩

/-- What a round leaves in the four variables. -/
def RK (w : World) (b0 N t : Nat) (s7 s8 s9 s10 : Value) (wx : World) : Prop :=
  Ext w wx ∧ ∃ (R S : Option Addr) (rc sc q live : Nat) (rs : List Int) (nds ns : List Nd) (fs : List Int) (last : Int), s7 = .slice R q rc ∧ s8 = .slice S q sc ∧ s9 = .int .i64 live ∧ s10 = .int .u64 last ∧ LastOk last ∧ InKeep w.heap.size wx b0 N t q live R S rc sc rs nds ns fs
theorem RK.mk {w wx : World} {b0 N t q live rc sc : Nat} {R S : Option Addr} {rs : List Int} {nds ns : List Nd} {fs : List Int} {last : Int} (hx : Ext w wx) (hl : LastOk last) (hi : InKeep w.heap.size wx b0 N t q live R S rc sc rs nds ns fs) : RK w b0 N t (.slice R q rc) (.slice S q sc) (.int .i64 live) (.int .u64 last) wx :=
  ⟨hx, R, S, rc, sc, q, live, rs, nds, ns, fs, last, rfl, rfl, rfl, rfl, hl, hi⟩
/-- What two appends leave. -/
def Z2 (w : World) (b0 b18 N m : Nat) (ns : List Nd) (fs : List Int) (x : Nd) (q : Nat) (rs : List Int) (nds : List Nd) (s7 s8 : Value) (wx : World) : Prop :=
  ∃ (R S : Option Addr) (rc sc : Nat), s7 = .slice R q rc ∧ s8 = .slice S q sc ∧ Zn w wx b0 b18 N m ns fs x (.slice R q rc) q rs (.slice S q sc) q nds
theorem mk9_cells {W : World} {b18 : Nat} {kk at_ last : Int} (h : Bx W b18 (mk9 kk at_ last).arr) : (fun w' => w'.cell? ⟨b18, 0, none⟩ = some (.int .i64 kk) ∧ w'.cell? ⟨b18, 1, none⟩ = some (.int .i64 0) ∧ w'.cell? ⟨b18, 2, none⟩ = some (.int .i64 at_) ∧ w'.cell? ⟨b18, 3, none⟩ = some (.int .i64 0) ∧ w'.cell? ⟨b18, 4, none⟩ = some (.int .i64 0) ∧ w'.cell? ⟨b18, 5, none⟩ = some (.int .u64 last) ∧ w'.cell? ⟨b18, 6, none⟩ = some (.int .u64 0) ∧ w'.cell? ⟨b18, 7, none⟩ = some (.int .u64 0) ∧ w'.cell? ⟨b18, 8, none⟩ = some (.int .u64 0) ∧ w'.cell? ⟨b18, 9, none⟩ = some (.int .u64 0) ∧ w'.cell? ⟨b18, 10, none⟩ = some (.int .u64 0) ∧ w'.cell? ⟨b18, 11, none⟩ = some (.int .u64 0) ∧ w'.cell? ⟨b18, 12, none⟩ = some (.int .u64 0) ∧ w'.cell? ⟨b18, 13, none⟩ = some (.int .u64 0) ∧ w'.cell? ⟨b18, 14, none⟩ = some (.int .i64 0) ∧ w'.cell? ⟨b18, 15, none⟩ = some (.int .i64 0)) W :=
  ⟨h.cell 0, h.cell 1, h.cell 2, h.cell 3, h.cell 4, h.cell 5, h.cell 6, h.cell 7, h.cell 8, h.cell 9, h.cell 10, h.cell 11, h.cell 12, h.cell 13, h.cell 14, h.cell 15⟩

/-- The code of the first loop. -/
def firstLoop : Code → Option Code
  | .loop c => some c
  | .seq a b => match firstLoop a with
    | some c => some c
    | none => firstLoop b
  | .block _ c => firstLoop c
  | .scope c => firstLoop c
  | .cond _ a b => match firstLoop a with
    | some c => some c
    | none => firstLoop b
  | _ => none
noncomputable def keepsBody : Code := ((Try.f5.body.bind firstLoop).getD .skip)
def findRegion (k : Nat) : Code → Option Code
  | .region id ops b => if id == k then some (.region id ops b) else none
  | .loop c => findRegion k c
  | .seq a b => match findRegion k a with
    | some c => some c
    | none => findRegion k b
  | .block _ c => findRegion k c
  | .scope c => findRegion k c
  | .cond _ a b => match findRegion k a with
    | some c => some c
    | none => findRegion k b
  | _ => none
noncomputable def keepsApp : Code := ((Try.f5.body.bind (findRegion 26)).getD .skip)
noncomputable def keepsInner : Code := (((Try.f5.body.bind firstLoop).bind firstLoop).getD .skip)
/-- What a round leaves. -/
def RE (w : World) (b0 N i : Nat) (s7 s8 s9 s10 s38 : Value) (wx : World) : Prop := RK w b0 N (i + 1) s7 s8 s9 s10 wx ∧ s38 = .int .i64 ((i + 1 : Nat) : Int)
theorem Bx.gen0 {W : World} {b : Nat} {z : Nd} (h : Bx W b z.arr) : Bx (W.setCell ⟨b, 1, none⟩ (.int .i64 0)) b (z.gen 0).arr := h.set (j := 1) (by simp [Nd.arr]) (.int .i64 0)

end Go.Proofs.Ytmfpgbiicncpcaa
