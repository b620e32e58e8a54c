/-
  Contracts: Drop.
-/
import Derived.Test.YtmfpgbiicncpcaaMake2
set_option linter.unusedVariables false
set_option linter.unusedSimpArgs false
namespace Go.Proofs.Ytmfpgbiicncpcaa
open Go.RowKit

theorem OwnN.sixteen {W : World} {g : Nat} {ns : List Nd} (h : OwnN W g ns) {i : Nat} {x : Nd} (hx : ns[i]? = some x) : W.cell? ⟨g, i * 16, none⟩ = some (.int .i64 x.k) ∧ W.cell? ⟨g, i * 16 + 1, none⟩ = some (.int .i64 x.g) ∧ W.cell? ⟨g, i * 16 + 2, none⟩ = some (.int .i64 x.n) ∧ W.cell? ⟨g, i * 16 + 3, none⟩ = some (.int .i64 x.v) ∧ W.cell? ⟨g, i * 16 + 4, none⟩ = some (.int .i64 x.s) ∧ W.cell? ⟨g, i * 16 + 5, none⟩ = some (.int .u64 x.r0) ∧ W.cell? ⟨g, i * 16 + 6, none⟩ = some (.int .u64 x.r1) ∧ W.cell? ⟨g, i * 16 + 7, none⟩ = some (.int .u64 x.r2) ∧ W.cell? ⟨g, i * 16 + 8, none⟩ = some (.int .u64 x.r3) ∧ W.cell? ⟨g, i * 16 + 9, none⟩ = some (.int .u64 x.r4) ∧ W.cell? ⟨g, i * 16 + 10, none⟩ = some (.int .u64 x.r5) ∧ W.cell? ⟨g, i * 16 + 11, none⟩ = some (.int .u64 x.r6) ∧ W.cell? ⟨g, i * 16 + 12, none⟩ = some (.int .u64 x.r7) ∧ W.cell? ⟨g, i * 16 + 13, none⟩ = some (.int .u64 x.r8) ∧ W.cell? ⟨g, i * 16 + 14, none⟩ = some (.int .i64 x.pre) ∧ W.cell? ⟨g, i * 16 + 15, none⟩ = some (.int .i64 x.suf) :=
  ⟨h.cell i x hx 0 (by omega), h.cell i x hx 1 (by omega), h.cell i x hx 2 (by omega), h.cell i x hx 3 (by omega), h.cell i x hx 4 (by omega), h.cell i x hx 5 (by omega), h.cell i x hx 6 (by omega), h.cell i x hx 7 (by omega), h.cell i x hx 8 (by omega), h.cell i x hx 9 (by omega), h.cell i x hx 10 (by omega), h.cell i x hx 11 (by omega), h.cell i x hx 12 (by omega), h.cell i x hx 13 (by omega), h.cell i x hx 14 (by omega), h.cell i x hx 15 (by omega)⟩
theorem OwnN.put16 {W : World} {g : Nat} {ns : List Nd} (h : OwnN W g ns) {i : Nat} (hi : i < ns.length) (x : Nd) :
    OwnN ((((((((((((((((W.setCell ⟨g, i * 16, none⟩ (.int .i64 x.k)).setCell ⟨g, i * 16 + 1, none⟩ (.int .i64 x.g)).setCell ⟨g, i * 16 + 2, none⟩ (.int .i64 x.n)).setCell ⟨g, i * 16 + 3, none⟩ (.int .i64 x.v)).setCell ⟨g, i * 16 + 4, none⟩ (.int .i64 x.s)).setCell ⟨g, i * 16 + 5, none⟩ (.int .u64 x.r0)).setCell ⟨g, i * 16 + 6, none⟩ (.int .u64 x.r1)).setCell ⟨g, i * 16 + 7, none⟩ (.int .u64 x.r2)).setCell ⟨g, i * 16 + 8, none⟩ (.int .u64 x.r3)).setCell ⟨g, i * 16 + 9, none⟩ (.int .u64 x.r4)).setCell ⟨g, i * 16 + 10, none⟩ (.int .u64 x.r5)).setCell ⟨g, i * 16 + 11, none⟩ (.int .u64 x.r6)).setCell ⟨g, i * 16 + 12, none⟩ (.int .u64 x.r7)).setCell ⟨g, i * 16 + 13, none⟩ (.int .u64 x.r8)).setCell ⟨g, i * 16 + 14, none⟩ (.int .i64 x.pre)).setCell ⟨g, i * 16 + 15, none⟩ (.int .i64 x.suf)) g (ns.set i x) := h.put hi x
theorem only16 (W : World) (g i : Nat) (x : Nd) : Only g W ((((((((((((((((W.setCell ⟨g, i * 16, none⟩ (.int .i64 x.k)).setCell ⟨g, i * 16 + 1, none⟩ (.int .i64 x.g)).setCell ⟨g, i * 16 + 2, none⟩ (.int .i64 x.n)).setCell ⟨g, i * 16 + 3, none⟩ (.int .i64 x.v)).setCell ⟨g, i * 16 + 4, none⟩ (.int .i64 x.s)).setCell ⟨g, i * 16 + 5, none⟩ (.int .u64 x.r0)).setCell ⟨g, i * 16 + 6, none⟩ (.int .u64 x.r1)).setCell ⟨g, i * 16 + 7, none⟩ (.int .u64 x.r2)).setCell ⟨g, i * 16 + 8, none⟩ (.int .u64 x.r3)).setCell ⟨g, i * 16 + 9, none⟩ (.int .u64 x.r4)).setCell ⟨g, i * 16 + 10, none⟩ (.int .u64 x.r5)).setCell ⟨g, i * 16 + 11, none⟩ (.int .u64 x.r6)).setCell ⟨g, i * 16 + 12, none⟩ (.int .u64 x.r7)).setCell ⟨g, i * 16 + 13, none⟩ (.int .u64 x.r8)).setCell ⟨g, i * 16 + 14, none⟩ (.int .i64 x.pre)).setCell ⟨g, i * 16 + 15, none⟩ (.int .i64 x.suf)) := setCells_only g x.cells (i * 16) W W (Only.refl g W)
theorem OwnN.drewN {W : World} {g : Nat} {ns : List Nd} (h : OwnN W g ns) (k : Nat) : OwnN (W.drewN k) g ns := h.to ((Ext.refl W).drewN k)

/-- One place, and then some, of nodes that are dropped. -/
def drop1 (ns : List Nd) (y : Int) : Option (List Nd) :=
  if 0 ≤ y then (match ns[y.toNat]? with | some x => if x.k = 0 then none else some (ns.set y.toNat (bare (foll x.g))) | none => none) else none
def drops : List Nd → List Int → Option (List Nd)
  | ns, [] => some ns
  | ns, y :: l => (drop1 ns y).bind (drops · l)
theorem drops_snoc (ns : List Nd) (l : List Int) (y : Int) : drops ns (l ++ [y]) = (drops ns l).bind (drop1 · y) := by
  induction l generalizing ns with
  | nil => simp [drops]
  | cons z l ih =>
    simp only [List.cons_append, drops]
    cases drop1 ns z with
    | none => rfl
    | some ns' => exact ih ns'
theorem drop1_some {ns ns' : List Nd} {y : Int} (h : drop1 ns y = some ns') : ∃ (p : Nat) (x : Nd), y = p ∧ ns[p]? = some x ∧ x.k ≠ 0 ∧ ns' = ns.set p (bare (foll x.g)) := by
  unfold drop1 at h
  split at h
  · rename_i h0
    split at h
    · rename_i x hx
      split at h
      · cases h
      · rename_i hk
        injection h with h
        exact ⟨y.toNat, x, by omega, hx, hk, h.symm⟩
    · cases h
  · cases h
theorem drop1_none {ns : List Nd} {y : Int} (h : drop1 ns y = none) : ∀ (p : Nat) (x : Nd), y = p → ns[p]? = some x → x.k = 0 := by
  rintro p x rfl hx
  unfold drop1 at h
  rw [if_pos (by omega), show ((p : Int)).toNat = p from rfl, hx] at h
  dsimp only at h
  split at h
  · assumption
  · cases h
theorem drop1_length {ns ns' : List Nd} {y : Int} (h : drop1 ns y = some ns') : ns'.length = ns.length := by
  obtain ⟨p, x, _, _, _, rfl⟩ := drop1_some h
  simp
theorem drops_length {l : List Int} : ∀ {ns ns' : List Nd}, drops ns l = some ns' → ns'.length = ns.length := by
  induction l with
  | nil => intro ns ns' h; simp [drops] at h; rw [h]
  | cons y l ih =>
    intro ns ns' h
    simp only [drops] at h
    cases hd : drop1 ns y with
    | none => rw [hd] at h; cases h
    | some n1 =>
      rw [hd] at h
      rw [ih h, drop1_length hd]
theorem drops_ok {l : List Int} : ∀ {ns ns' : List Nd}, drops ns l = some ns' → (∀ x ∈ ns, x.Ok) → ∀ x ∈ ns', x.Ok := by
  induction l with
  | nil => intro ns ns' h; simp [drops] at h; subst h; exact id
  | cons y l ih =>
    intro ns ns' h hk
    simp only [drops] at h
    cases hd : drop1 ns y with
    | none => rw [hd] at h; cases h
    | some n1 =>
      rw [hd] at h
      refine ih h fun x hx => ?_
      obtain ⟨p, z, _, _, _, rfl⟩ := drop1_some hd
      rcases List.mem_or_eq_of_mem_set hx with h' | h'
      · exact hk x h'
      · subst h'
        intro r hr
        simp [bare, Nd.kids] at hr
        subst hr
        omega
theorem drops_gens {l : List Int} : ∀ {ns ns' : List Nd}, drops ns l = some ns' → (∀ x ∈ ns, GenMay x.g) → ∀ x ∈ ns', GenMay x.g := by
  induction l with
  | nil => intro ns ns' h; simp [drops] at h; subst h; exact id
  | cons y l ih =>
    intro ns ns' h hk
    simp only [drops] at h
    cases hd : drop1 ns y with
    | none => rw [hd] at h; cases h
    | some n1 =>
      rw [hd] at h
      refine ih h fun x hx => ?_
      obtain ⟨p, z, _, hz, _, rfl⟩ := drop1_some hd
      rcases List.mem_or_eq_of_mem_set hx with h' | h'
      · exact hk x h'
      · subst h'
        exact foll_may (hk z (List.mem_of_getElem? hz))
theorem drops_take_none {ns : List Nd} {l : List Int} (k : Nat) (h : drops ns (l.take k) = none) : drops ns l = none := by
  have key : ∀ (q r : List Int) (ns : List Nd), drops ns q = none → drops ns (q ++ r) = none := by
    intro q r
    induction q with
    | nil => intro ns h; cases h
    | cons y q ih =>
      intro ns h
      simp only [List.cons_append, drops] at h ⊢
      cases hd : drop1 ns y with
      | none => rfl
      | some n1 => rw [hd] at h; exact ih n1 h
  have := key (l.take k) (l.drop k) ns h
  rwa [List.take_append_drop] at this

def DropA (w : World) (n m q : Nat) (ns : List Nd) (fs ps : List Int) (e : Ending) (w' : World) : Prop :=
  ∃ g c B d, e = .returned (.tuple #[.agg #[.slice (some ⟨g, 0, none⟩) n c, .slice B (m + q : Nat) d], .int .i64 0]) ∧ m + q ≤ d ∧ d ≤ maxLen ∧ Ar w' (some ⟨g, 0, none⟩) n B (m + q) ns (fs ++ ps) ∧ Ext w w' ∧ FrA w g B

end Go.Proofs.Ytmfpgbiicncpcaa
