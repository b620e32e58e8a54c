/-
  Texts in one: Drop ArMath Dfs Gather App0.
-/
import Derived.Test.YtfoifcbaadnigaaGC
import Derived.Test.YtfoifcbaadnigaaGB
import Derived.ArgAppend
import Derived.Deep.RegionLaw

/-
  Contracts: Drop.
-/
set_option linter.unusedVariables false
set_option linter.unusedSimpArgs false
namespace Go.Proofs.Ytfoifcbaadnigaa
open Go.RowKit

theorem OwnN.sixteen {W : World} {g : Nat} {ns : List Nd} (h : OwnN W g ns) {i : Nat} {x : Nd} (hx : ns[i]? = some x) : W.cell? ⟨g, i * 16, none⟩ = some (.int .i64 x.k) ∧ W.cell? ⟨g, i * 16 + 1, none⟩ = some (.int .i64 x.g) ∧ W.cell? ⟨g, i * 16 + 2, none⟩ = some (.int .i64 x.n) ∧ W.cell? ⟨g, i * 16 + 3, none⟩ = some (.int .i64 x.v) ∧ W.cell? ⟨g, i * 16 + 4, none⟩ = some (.int .i64 x.s) ∧ W.cell? ⟨g, i * 16 + 5, none⟩ = some (.int .u64 x.r0) ∧ W.cell? ⟨g, i * 16 + 6, none⟩ = some (.int .u64 x.r1) ∧ W.cell? ⟨g, i * 16 + 7, none⟩ = some (.int .u64 x.r2) ∧ W.cell? ⟨g, i * 16 + 8, none⟩ = some (.int .u64 x.r3) ∧ W.cell? ⟨g, i * 16 + 9, none⟩ = some (.int .u64 x.r4) ∧ W.cell? ⟨g, i * 16 + 10, none⟩ = some (.int .u64 x.r5) ∧ W.cell? ⟨g, i * 16 + 11, none⟩ = some (.int .u64 x.r6) ∧ W.cell? ⟨g, i * 16 + 12, none⟩ = some (.int .u64 x.r7) ∧ W.cell? ⟨g, i * 16 + 13, none⟩ = some (.int .u64 x.r8) ∧ W.cell? ⟨g, i * 16 + 14, none⟩ = some (.int .i64 x.pre) ∧ W.cell? ⟨g, i * 16 + 15, none⟩ = some (.int .i64 x.suf) :=
  ⟨h.cell i x hx 0 (by omega), h.cell i x hx 1 (by omega), h.cell i x hx 2 (by omega), h.cell i x hx 3 (by omega), h.cell i x hx 4 (by omega), h.cell i x hx 5 (by omega), h.cell i x hx 6 (by omega), h.cell i x hx 7 (by omega), h.cell i x hx 8 (by omega), h.cell i x hx 9 (by omega), h.cell i x hx 10 (by omega), h.cell i x hx 11 (by omega), h.cell i x hx 12 (by omega), h.cell i x hx 13 (by omega), h.cell i x hx 14 (by omega), h.cell i x hx 15 (by omega)⟩
theorem OwnN.put16 {W : World} {g : Nat} {ns : List Nd} (h : OwnN W g ns) {i : Nat} (hi : i < ns.length) (x : Nd) :
    OwnN ((((((((((((((((W.setCell ⟨g, i * 16, none⟩ (.int .i64 x.k)).setCell ⟨g, i * 16 + 1, none⟩ (.int .i64 x.g)).setCell ⟨g, i * 16 + 2, none⟩ (.int .i64 x.n)).setCell ⟨g, i * 16 + 3, none⟩ (.int .i64 x.v)).setCell ⟨g, i * 16 + 4, none⟩ (.int .i64 x.s)).setCell ⟨g, i * 16 + 5, none⟩ (.int .u64 x.r0)).setCell ⟨g, i * 16 + 6, none⟩ (.int .u64 x.r1)).setCell ⟨g, i * 16 + 7, none⟩ (.int .u64 x.r2)).setCell ⟨g, i * 16 + 8, none⟩ (.int .u64 x.r3)).setCell ⟨g, i * 16 + 9, none⟩ (.int .u64 x.r4)).setCell ⟨g, i * 16 + 10, none⟩ (.int .u64 x.r5)).setCell ⟨g, i * 16 + 11, none⟩ (.int .u64 x.r6)).setCell ⟨g, i * 16 + 12, none⟩ (.int .u64 x.r7)).setCell ⟨g, i * 16 + 13, none⟩ (.int .u64 x.r8)).setCell ⟨g, i * 16 + 14, none⟩ (.int .i64 x.pre)).setCell ⟨g, i * 16 + 15, none⟩ (.int .i64 x.suf)) g (ns.set i x) := h.put hi x
theorem only16 (W : World) (g i : Nat) (x : Nd) : Only g W ((((((((((((((((W.setCell ⟨g, i * 16, none⟩ (.int .i64 x.k)).setCell ⟨g, i * 16 + 1, none⟩ (.int .i64 x.g)).setCell ⟨g, i * 16 + 2, none⟩ (.int .i64 x.n)).setCell ⟨g, i * 16 + 3, none⟩ (.int .i64 x.v)).setCell ⟨g, i * 16 + 4, none⟩ (.int .i64 x.s)).setCell ⟨g, i * 16 + 5, none⟩ (.int .u64 x.r0)).setCell ⟨g, i * 16 + 6, none⟩ (.int .u64 x.r1)).setCell ⟨g, i * 16 + 7, none⟩ (.int .u64 x.r2)).setCell ⟨g, i * 16 + 8, none⟩ (.int .u64 x.r3)).setCell ⟨g, i * 16 + 9, none⟩ (.int .u64 x.r4)).setCell ⟨g, i * 16 + 10, none⟩ (.int .u64 x.r5)).setCell ⟨g, i * 16 + 11, none⟩ (.int .u64 x.r6)).setCell ⟨g, i * 16 + 12, none⟩ (.int .u64 x.r7)).setCell ⟨g, i * 16 + 13, none⟩ (.int .u64 x.r8)).setCell ⟨g, i * 16 + 14, none⟩ (.int .i64 x.pre)).setCell ⟨g, i * 16 + 15, none⟩ (.int .i64 x.suf)) := setCells_only g x.cells (i * 16) W W (Only.refl g W)
theorem OwnN.drewN {W : World} {g : Nat} {ns : List Nd} (h : OwnN W g ns) (k : Nat) : OwnN (W.drewN k) g ns := h.to ((Ext.refl W).drewN k)

/-- One place, and then some, of nodes that are dropped. -/
def drop1 (ns : List Nd) (y : Int) : Option (List Nd) :=
  if 0 ≤ y then (match ns[y.toNat]? with | some x => if x.k = 0 then none else some (ns.set y.toNat (bare (foll x.g))) | none => none) else none
def drops : List Nd → List Int → Option (List Nd)
  | ns, [] => some ns
  | ns, y :: l => (drop1 ns y).bind (drops · l)
theorem drops_snoc (ns : List Nd) (l : List Int) (y : Int) : drops ns (l ++ [y]) = (drops ns l).bind (drop1 · y) := by
  induction l generalizing ns with
  | nil => simp [drops]
  | cons z l ih =>
    simp only [List.cons_append, drops]
    cases drop1 ns z with
    | none => rfl
    | some ns' => exact ih ns'
theorem drop1_some {ns ns' : List Nd} {y : Int} (h : drop1 ns y = some ns') : ∃ (p : Nat) (x : Nd), y = p ∧ ns[p]? = some x ∧ x.k ≠ 0 ∧ ns' = ns.set p (bare (foll x.g)) := by
  unfold drop1 at h
  split at h
  · rename_i h0
    split at h
    · rename_i x hx
      split at h
      · cases h
      · rename_i hk
        injection h with h
        exact ⟨y.toNat, x, by omega, hx, hk, h.symm⟩
    · cases h
  · cases h
theorem drop1_none {ns : List Nd} {y : Int} (h : drop1 ns y = none) : ∀ (p : Nat) (x : Nd), y = p → ns[p]? = some x → x.k = 0 := by
  rintro p x rfl hx
  unfold drop1 at h
  rw [if_pos (by omega), show ((p : Int)).toNat = p from rfl, hx] at h
  dsimp only at h
  split at h
  · assumption
  · cases h
theorem drop1_length {ns ns' : List Nd} {y : Int} (h : drop1 ns y = some ns') : ns'.length = ns.length := by
  obtain ⟨p, x, _, _, _, rfl⟩ := drop1_some h
  simp
theorem drops_length {l : List Int} : ∀ {ns ns' : List Nd}, drops ns l = some ns' → ns'.length = ns.length := by
  induction l with
  | nil => intro ns ns' h; simp [drops] at h; rw [h]
  | cons y l ih =>
    intro ns ns' h
    simp only [drops] at h
    cases hd : drop1 ns y with
    | none => rw [hd] at h; cases h
    | some n1 =>
      rw [hd] at h
      rw [ih h, drop1_length hd]
theorem drops_ok {l : List Int} : ∀ {ns ns' : List Nd}, drops ns l = some ns' → (∀ x ∈ ns, x.Ok) → ∀ x ∈ ns', x.Ok := by
  induction l with
  | nil => intro ns ns' h; simp [drops] at h; subst h; exact id
  | cons y l ih =>
    intro ns ns' h hk
    simp only [drops] at h
    cases hd : drop1 ns y with
    | none => rw [hd] at h; cases h
    | some n1 =>
      rw [hd] at h
      refine ih h fun x hx => ?_
      obtain ⟨p, z, _, _, _, rfl⟩ := drop1_some hd
      rcases List.mem_or_eq_of_mem_set hx with h' | h'
      · exact hk x h'
      · subst h'
        intro r hr
        simp [bare, Nd.kids] at hr
        subst hr
        omega
theorem drops_gens {l : List Int} : ∀ {ns ns' : List Nd}, drops ns l = some ns' → (∀ x ∈ ns, GenMay x.g) → ∀ x ∈ ns', GenMay x.g := by
  induction l with
  | nil => intro ns ns' h; simp [drops] at h; subst h; exact id
  | cons y l ih =>
    intro ns ns' h hk
    simp only [drops] at h
    cases hd : drop1 ns y with
    | none => rw [hd] at h; cases h
    | some n1 =>
      rw [hd] at h
      refine ih h fun x hx => ?_
      obtain ⟨p, z, _, hz, _, rfl⟩ := drop1_some hd
      rcases List.mem_or_eq_of_mem_set hx with h' | h'
      · exact hk x h'
      · subst h'
        exact foll_may (hk z (List.mem_of_getElem? hz))
theorem drops_take_none {ns : List Nd} {l : List Int} (k : Nat) (h : drops ns (l.take k) = none) : drops ns l = none := by
  have key : ∀ (q r : List Int) (ns : List Nd), drops ns q = none → drops ns (q ++ r) = none := by
    intro q r
    induction q with
    | nil => intro ns h; cases h
    | cons y q ih =>
      intro ns h
      simp only [List.cons_append, drops] at h ⊢
      cases hd : drop1 ns y with
      | none => rfl
      | some n1 => rw [hd] at h; exact ih n1 h
  have := key (l.take k) (l.drop k) ns h
  rwa [List.take_append_drop] at this

def DropA (w : World) (n m q : Nat) (ns : List Nd) (fs ps : List Int) (e : Ending) (w' : World) : Prop :=
  ∃ g c B d, e = .returned (.tuple #[.agg #[.slice (some ⟨g, 0, none⟩) n c, .slice B (m + q : Nat) d], .int .i64 0]) ∧ m + q ≤ d ∧ d ≤ maxLen ∧ Ar w' (some ⟨g, 0, none⟩) n B (m + q) ns (fs ++ ps) ∧ Ext w w' ∧ FrA w g B

end Go.Proofs.Ytfoifcbaadnigaa

/-
  What may be stays so: an arena that is new, in which a node is made, from which nodes are dropped.
-/
set_option linter.unusedVariables false
set_option linter.unusedSimpArgs false
namespace Go.Proofs.Ytfoifcbaadnigaa
open Go.RowKit

theorem bare_fits {g : Int} (h : GenMay g) : (bare g).Fits := ⟨h, .inl ⟨rfl, rfl⟩⟩
theorem new_may {n : Nat} (h1 : 1 ≤ n) (h2 : n ≤ 512) : ArMay (List.replicate n (bare 0)) (down n) := by
  refine ⟨by simp; omega, by simp; omega, fun x hx => ?_, fun y hy => ?_, ?_, fun i x hx => ?_⟩
  · rw [List.eq_of_mem_replicate hx]
    exact bare_fits ⟨by omega, by omega⟩
  · simp only [down, List.mem_map, List.mem_range] at hy
    obtain ⟨i, hi, rfl⟩ := hy
    simp only [List.length_replicate]
    exact ⟨by omega, by omega⟩
  · unfold down
    rw [List.nodup_iff_pairwise_ne, List.pairwise_map]
    exact List.pairwise_lt_range.imp (fun {a b} hab => by omega)
  · have hi : i < n := by simpa using (List.getElem?_eq_some_iff.1 hx).1
    have hx' : x = bare 0 := List.eq_of_mem_replicate (List.mem_of_getElem? hx)
    subst hx'
    simp only [down, List.mem_map, List.mem_range]
    exact ⟨fun _ => rfl, fun _ => ⟨n - 1 - i, by omega, by omega⟩⟩

theorem make_may {ns : List Nd} {fs : List Int} {m p : Nat} {x old : Nd} (h : ArMay ns fs) (hm : fs.length = m + 1) (hp : fs[m]? = some (p : Int)) (hold : ns[p]? = some old) (hx : x.Makes) : ArMay (ns.set p (x.gen old.g)) (fs.take m) := by
  have hfs : fs.take m ++ [(p : Int)] = fs := by
    have := List.take_add_one (l := fs) (i := m)
    rw [hp, List.take_of_length_le (by omega)] at this
    exact this.symm
  have hnp := nodup_at h.frees.2.1 hp
  have hsub : ∀ y ∈ fs.take m, y ∈ fs := fun y hy => List.mem_of_mem_take hy
  refine ⟨by rw [List.length_set]; exact h.pos, by rw [List.length_set]; exact h.le, fun y hy => ?_, fun y hy => by rw [List.length_set]; exact h.frees.1 y (hsub y hy), h.frees.2.1.sublist (List.take_sublist _ _), fun i y hy => ?_⟩
  · rcases List.mem_or_eq_of_mem_set hy with h' | h'
    · exact h.fits y h'
    · subst h'
      exact ⟨(h.fits old (List.mem_of_getElem? hold)).1, .inr ⟨by have := hx.1; show x.k ≠ 0; omega, hx.2.2⟩⟩
  · by_cases e : p = i
    · subst e
      rw [List.getElem?_set_self (List.getElem?_eq_some_iff.1 hold).1] at hy
      obtain rfl := Option.some.inj hy
      exact ⟨fun hh => absurd hh hnp, fun hk => by have := hx.1; have : x.k = 0 := hk; omega⟩
    · rw [List.getElem?_set_ne e] at hy
      rw [← h.frees.2.2 i y hy]
      refine ⟨hsub _, fun hh => ?_⟩
      rw [← hfs] at hh
      rcases List.mem_append.1 hh with hh | hh
      · exact hh
      · simp at hh
        omega

theorem drop1_may {ns ns' : List Nd} {fs : List Int} {y : Int} (h : ArMay ns fs) (hd : drop1 ns y = some ns') : ArMay ns' (fs ++ [y]) := by
  obtain ⟨p, x, rfl, hx, hk, rfl⟩ := drop1_some hd
  have hpn := (List.getElem?_eq_some_iff.1 hx).1
  have hnp : (p : Int) ∉ fs := fun hh => hk ((h.frees.2.2 p x hx).1 hh)
  refine ⟨by rw [List.length_set]; exact h.pos, by rw [List.length_set]; exact h.le, fun z hz => ?_, fun z hz => ?_, ?_, fun i z hz => ?_⟩
  · rcases List.mem_or_eq_of_mem_set hz with h' | h'
    · exact h.fits z h'
    · subst h'
      exact bare_fits (foll_may (h.fits x (List.mem_of_getElem? hx)).1)
  · rw [List.length_set]
    rcases List.mem_append.1 hz with hz | hz
    · exact h.frees.1 z hz
    · simp at hz
      subst hz
      exact ⟨by omega, by omega⟩
  · refine List.nodup_append.2 ⟨h.frees.2.1, by simp, fun a ha b hb => ?_⟩
    simp at hb
    subst hb
    exact fun e => hnp (e ▸ ha)
  · by_cases e : p = i
    · subst e
      rw [List.getElem?_set_self hpn] at hz
      obtain rfl := Option.some.inj hz
      simp [bare]
    · rw [List.getElem?_set_ne e] at hz
      rw [← h.frees.2.2 i z hz]
      refine ⟨fun hh => ?_, fun hh => List.mem_append.2 (.inl hh)⟩
      rcases List.mem_append.1 hh with hh | hh
      · exact hh
      · simp at hh
        omega
theorem drops_may {l : List Int} : ∀ {ns ns' : List Nd} {fs : List Int}, ArMay ns fs → drops ns l = some ns' → ArMay ns' (fs ++ l) := by
  induction l with
  | nil => intro ns ns' fs h hd; simp [drops] at hd; subst hd; simpa using h
  | cons y l ih =>
    intro ns ns' fs h hd
    simp only [drops] at hd
    cases h1 : drop1 ns y with
    | none => rw [h1] at hd; cases hd
    | some n1 =>
      rw [h1] at hd
      have := ih (drop1_may h h1) hd
      rwa [List.append_assoc] at this
/-- The last free place is a place of a node that is free. -/
theorem ArMay.last {ns : List Nd} {fs : List Int} (h : ArMay ns fs) {m : Nat} {y : Int} (hy : fs[m]? = some y) : ∃ (p : Nat) (old : Nd), y = p ∧ ns[p]? = some old ∧ old.k = 0 ∧ old = bare old.g := by
  have hm := List.mem_of_getElem? hy
  have hin := h.frees.1 y hm
  obtain ⟨old, ho⟩ : ∃ old, ns[y.toNat]? = some old := ⟨_, List.getElem?_eq_getElem (by have := hin.1; have := hin.2; omega)⟩
  have e : ((y.toNat : Nat) : Int) = y := by have := hin.1; omega
  have hk := (h.frees.2.2 y.toNat old ho).1 (by rw [e]; exact hm)
  refine ⟨y.toNat, old, e.symm, ho, hk, ?_⟩
  rcases (h.fits old (List.mem_of_getElem? ho)).2 with ⟨_, hb⟩ | ⟨hk', _⟩
  · exact hb
  · exact absurd hk hk'

end Go.Proofs.Ytfoifcbaadnigaa

/-
  What is reached, in the order in which it is met.
-/
set_option linter.unusedVariables false
set_option linter.unusedSimpArgs false
namespace Go.Proofs.Ytfoifcbaadnigaa
open Go.RowKit

/-- The place and the node of a reference. -/
def gotF (ns : List Nd) (r : Int) : Option (Nat × Nd) :=
  if Node r then (match ns[(r % 65536 - 1).toNat]? with | some x => if x.k ≠ 0 ∧ x.g = r / 65536 then some ((r % 65536 - 1).toNat, x) else none | none => none) else none
theorem gotF_some {ns : List Nd} {r : Int} {p : Nat} {x : Nd} : gotF ns r = some (p, x) ↔ Got ns r p x := by
  unfold gotF
  constructor
  · intro h
    split at h
    · rename_i hn
      split at h
      · rename_i y hy
        split at h
        · rename_i hk
          injection h with h
          injection h with h1 h2
          subst h1 h2
          exact ⟨hn, by have := hn.1; omega, hy, hk.1, hk.2⟩
        · cases h
      · cases h
    · cases h
  · rintro ⟨h1, h2, h3, h4, h5⟩
    have e : (r % 65536 - 1).toNat = p := by omega
    rw [if_pos h1, e, h3]
    dsimp only
    rw [if_pos ⟨h4, h5⟩]
theorem gotF_none {ns : List Nd} {r : Int} : gotF ns r = none ↔ Gone ns r := by
  constructor
  · intro h p x hg
    rw [gotF_some.2 hg] at h
    cases h
  · intro h
    cases hq : gotF ns r with
    | none => rfl
    | some q => exact absurd (gotF_some.1 hq) (h q.1 q.2)

def visit (ns : List Nd) : Nat → List Int → Int → List Int
  | 0, met, _ => met
  | d + 1, met, r => match gotF ns r with
    | none => met
    | some (p, x) => if (p : Int) ∈ met then met else x.kids.foldl (visit ns d) (met ++ [(p : Int)])
def visits (ns : List Nd) (d : Nat) (met refs : List Int) : List Int := refs.foldl (visit ns d) met
theorem visits_nil (ns : List Nd) (d : Nat) (met : List Int) : visits ns d met [] = met := rfl
theorem visits_snoc (ns : List Nd) (d : Nat) (met l : List Int) (r : Int) : visits ns d met (l ++ [r]) = visit ns d (visits ns d met l) r := by simp [visits]
theorem visit_gone {ns : List Nd} {r : Int} (d : Nat) (met : List Int) (h : gotF ns r = none) : visit ns (d + 1) met r = met := by simp [visit, h]
theorem visit_met {ns : List Nd} {r : Int} {p : Nat} {x : Nd} (d : Nat) (met : List Int) (h : gotF ns r = some (p, x)) (hm : (p : Int) ∈ met) : visit ns (d + 1) met r = met := by simp [visit, h, hm]
theorem visit_new {ns : List Nd} {r : Int} {p : Nat} {x : Nd} (d : Nat) (met : List Int) (h : gotF ns r = some (p, x)) (hm : (p : Int) ∉ met) : visit ns (d + 1) met r = visits ns d (met ++ [(p : Int)]) x.kids := by simp [visit, h, hm, visits]

/-- Places that were met: each once, of nodes that are not free. -/
structure Met (ns : List Nd) (met : List Int) : Prop where
  nodup : met.Nodup
  made : ∀ y ∈ met, ∃ (p : Nat) (x : Nd), y = p ∧ ns[p]? = some x ∧ x.k ≠ 0
theorem Met.nil (ns : List Nd) : Met ns [] := ⟨by simp, by simp⟩
theorem Met.snoc {ns : List Nd} {met : List Int} {r : Int} {p : Nat} {x : Nd} (h : Met ns met) (hg : gotF ns r = some (p, x)) (hm : (p : Int) ∉ met) : Met ns (met ++ [(p : Int)]) := by
  have hg' := gotF_some.1 hg
  refine ⟨List.nodup_append.2 ⟨h.nodup, by simp, fun a ha b hb => ?_⟩, fun y hy => ?_⟩
  · simp at hb
    subst hb
    exact fun e => hm (e ▸ ha)
  · rcases List.mem_append.1 hy with hy | hy
    · exact h.made y hy
    · simp at hy
      exact ⟨p, x, hy, hg'.at_, hg'.kind⟩
theorem Met.len {ns : List Nd} {met : List Int} (h : Met ns met) : met.length ≤ ns.length := by
  have h2 : met ⊆ (List.range ns.length).map Int.ofNat := fun y hy => by
    obtain ⟨p, x, rfl, hx, _⟩ := h.made y hy
    exact List.mem_map.2 ⟨p, by simpa using (List.getElem?_eq_some_iff.1 hx).1, rfl⟩
  have := h.nodup.length_le_of_subset h2
  simpa using this

/-- What a visit keeps: what was met stays in front; and each that may be met stays so. -/
theorem visit_pre (ns : List Nd) (d : Nat) : ∀ (met : List Int) (r : Int), ∃ l, visit ns d met r = met ++ l ∧ (Met ns met → Met ns (met ++ l)) := by
  induction d with
  | zero => intro met r; exact ⟨[], by simp [visit], by simp⟩
  | succ d ih =>
    intro met r
    have hs : ∀ (refs met : List Int), ∃ l, visits ns d met refs = met ++ l ∧ (Met ns met → Met ns (met ++ l)) := by
      intro refs
      induction refs with
      | nil => intro met; exact ⟨[], by simp [visits], by simp⟩
      | cons q refs ihr =>
        intro met
        obtain ⟨l1, e1, m1⟩ := ih met q
        obtain ⟨l2, e2, m2⟩ := ihr (met ++ l1)
        refine ⟨l1 ++ l2, ?_, fun hm => ?_⟩
        · show visits ns d (visit ns d met q) refs = _
          rw [e1, e2, List.append_assoc]
        · rw [← List.append_assoc]
          exact m2 (m1 hm)
    cases hg : gotF ns r with
    | none => exact ⟨[], by rw [visit_gone d met hg]; simp, by simp⟩
    | some q =>
      obtain ⟨p, x⟩ := q
      by_cases hm : (p : Int) ∈ met
      · exact ⟨[], by rw [visit_met d met hg hm]; simp, by simp⟩
      · obtain ⟨l, e, m⟩ := hs x.kids (met ++ [(p : Int)])
        refine ⟨[(p : Int)] ++ l, by rw [visit_new d met hg hm, e, List.append_assoc], fun h => ?_⟩
        rw [← List.append_assoc]
        exact m (h.snoc hg hm)
theorem visits_pre (ns : List Nd) (d : Nat) (refs : List Int) : ∀ (met : List Int), ∃ l, visits ns d met refs = met ++ l ∧ (Met ns met → Met ns (met ++ l)) := by
  induction refs with
  | nil => intro met; exact ⟨[], by simp [visits], by simp⟩
  | cons q refs ihr =>
    intro met
    obtain ⟨l1, e1, m1⟩ := visit_pre ns d met q
    obtain ⟨l2, e2, m2⟩ := ihr (met ++ l1)
    refine ⟨l1 ++ l2, ?_, fun hm => ?_⟩
    · show visits ns d (visit ns d met q) refs = _
      rw [e1, e2, List.append_assoc]
    · rw [← List.append_assoc]
      exact m2 (m1 hm)
theorem visits_met {ns : List Nd} {d : Nat} {refs met : List Int} (h : Met ns met) : Met ns (visits ns d met refs) := by
  obtain ⟨l, e, m⟩ := visits_pre ns d refs met
  rw [e]
  exact m h
theorem visits_len (ns : List Nd) (d : Nat) (refs met : List Int) : met.length ≤ (visits ns d met refs).length := by
  obtain ⟨l, e, _⟩ := visits_pre ns d refs met
  rw [e]
  simp

end Go.Proofs.Ytfoifcbaadnigaa

/-
  The closure of Reach, which calls itself.
-/
set_option linter.unusedVariables false
set_option linter.unusedSimpArgs false
namespace Go.Proofs.Ytfoifcbaadnigaa
open Go.RowKit

/-- From W to W' only blocks g, bp and o have turned, and what is new. -/
structure Keep3 (W W' : World) (g bp : Nat) (o : Option Nat) : Prop where
  os : W'.os = W.os
  tape : W'.tape = W.tape
  output : W'.output = W.output
  size : W.heap.size ≤ W'.heap.size
  block : ∀ k, k < W.heap.size → k ≠ g → k ≠ bp → o ≠ some k → W'.heap[k]? = W.heap[k]?
/-- A row grew in place, or is new since W. -/
def Grew (W : World) (o o' : Option Nat) : Prop := o' = o ∨ ∀ k, o' = some k → W.heap.size ≤ k
section
variable {W W1 W2 : World} {g bp : Nat} {o o1 o2 : Option Nat}
theorem Grew.refl (W : World) (o : Option Nat) : Grew W o o := .inl rfl
theorem Grew.trans (h : Grew W o o1) (h2 : Grew W1 o1 o2) (hs : W.heap.size ≤ W1.heap.size) : Grew W o o2 := by
  rcases h2 with rfl | h2
  · exact h
  · exact .inr fun k hk => Nat.le_trans hs (h2 k hk)
theorem Keep3.refl (W : World) (g bp : Nat) (o : Option Nat) : Keep3 W W g bp o := ⟨rfl, rfl, rfl, Nat.le_refl _, fun _ _ _ _ _ => rfl⟩
theorem Keep3.trans (h : Keep3 W W1 g bp o) (h2 : Keep3 W1 W2 g bp o1) (ho : Grew W o o1) : Keep3 W W2 g bp o :=
  ⟨h2.os.trans h.os, h2.tape.trans h.tape, h2.output.trans h.output, Nat.le_trans h.size h2.size, fun k hk n1 n2 n3 => (h2.block k (Nat.lt_of_lt_of_le hk h.size) n1 n2 (fun e => by
    rcases ho with rfl | ho
    · exact n3 e
    · have := ho k e; omega)).trans (h.block k hk n1 n2 n3)⟩
theorem Keep3.of_ext (hx : Ext W W1) (g bp : Nat) (o : Option Nat) : Keep3 W W1 g bp o := ⟨hx.os, hx.tape, hx.output, hx.size, fun k hk _ _ _ => hx.block k hk⟩
theorem Keep3.of_g (ho : Only g W W1) (bp : Nat) (o : Option Nat) : Keep3 W W1 g bp o := ⟨ho.os, ho.tape, ho.output, ho.size, fun k hk n1 _ _ => ho.block k hk (fun e => n1 (by injection e))⟩
theorem Keep3.of_p (ho : Only bp W W1) (g : Nat) (o : Option Nat) : Keep3 W W1 g bp o := ⟨ho.os, ho.tape, ho.output, ho.size, fun k hk _ n2 _ => ho.block k hk (fun e => n2 (by injection e))⟩
theorem Keep3.of_grown (hg : W.grownBy W1 o) (g bp : Nat) : Keep3 W W1 g bp o := ⟨hg.os, hg.tape, hg.output, hg.size, fun k hk _ _ n3 => hg.block k hk (fun e => n3 e.symm)⟩
theorem Keep3.ext (h : Keep3 W W1 g bp o) (hx : Ext W1 W2) : Keep3 W W2 g bp o := h.trans (Keep3.of_ext hx g bp o) (Grew.refl _ _)
theorem Bx.keep {b : Nat} {cs : Array Value} (h : Bx W b cs) (hk : Keep3 W W1 g bp o) (h1 : b ≠ g) (h2 : b ≠ bp) (h3 : o ≠ some b) : Bx W1 b cs := by
  have e := hk.block b h.lt h1 h2 h3
  exact ⟨Nat.lt_of_lt_of_le h.lt hk.size, fun j => (World.cell?_of_block (a := ⟨b, j, none⟩) e).trans (h.cell j), fun j => by
    have := h.free j
    unfold World.frozen? at this ⊢
    rw [e]
    exact this⟩
/-- What is older than a base is as it was. -/
theorem Keep3.old {w0 : World} (h : Keep3 W W1 g bp o) (hx : Ext w0 W) (hg : w0.heap.size ≤ g) (hp : w0.heap.size ≤ bp) (ho : ∀ k, o = some k → w0.heap.size ≤ k) : Ext w0 W1 :=
  ⟨h.os.trans hx.os, h.tape.trans hx.tape, h.output.trans hx.output, Nat.le_trans hx.size h.size, fun k hk => (h.block k (Nat.lt_of_lt_of_le hk hx.size) (by omega) (by omega) (fun e => by have := ho k e; omega)).trans (hx.block k hk)⟩
end

/-- Where the closure's variables lie. -/
structure Spots (base ba bm bp bg g : Nat) : Prop where
  ab : base ≤ ba
  mb : base ≤ bm
  pb : base ≤ bp
  fb : base ≤ bg
  gb : base ≤ g
  pa : bp ≠ ba
  pm : bp ≠ bm
  pf : bp ≠ bg
  pg : bp ≠ g
  ga : g ≠ ba
  gm : g ≠ bm
  gf : g ≠ bg
end Go.Proofs.Ytfoifcbaadnigaa

/-
  append onto an empty literal, wherever it lies.
-/
set_option linter.unusedVariables false
set_option linter.unusedSimpArgs false
namespace Go.Proofs.Ytfoifcbaadnigaa
open Go.RowKit

/-- A row of the call's own, or an empty literal. -/
def Lit0 (W : World) (base : Nat) (e : TypeId) (size : Nat) (v : Value) (n : Nat) (xs : List Value) : Prop :=
  W.ownsRow base e size v n xs ∨ (n = 0 ∧ xs = [] ∧ ∃ q, v = .slice (some q) 0 0)
theorem Lit0.to {W W' : World} {base : Nat} {e : TypeId} {size n : Nat} {v : Value} {xs : List Value} (h : Lit0 W base e size v n xs) (hx : Ext W W') : Lit0 W' base e size v n xs :=
  h.imp (fun h => own_ext h hx) id
theorem Lit0.base {W : World} {base base' : Nat} {e : TypeId} {size n : Nat} {v : Value} {xs : List Value} (h : Lit0 W base e size v n xs) (hb : base' ≤ base) : Lit0 W base' e size v n xs :=
  h.imp (fun h => own_base h hb) id
theorem Ext.of_grown {w w' : World} (h : w.grownBy w' none) : Ext w w' := ⟨h.os, h.tape, h.output, h.size, fun k hk => h.block k hk (by simp)⟩

theorem run_append_new {P : Program} (w : World) (t ty e : TypeId) (i : TypeInfo) (z : Value) (size bytes : Nat) (ht : P.underlying t = some (.slice e)) (hi : P.info? e = some i) (hz : i.zero = some z) (hsize : i.size = size) (hby : i.bytes = bytes) (hzs : z.cells.size = size) (hsz : 0 < size)
    (q : Addr) (A : Option Addr) (m c : Nat) (news : List Value) (hr : Rd w size A m news) (h1 : ∀ u ∈ news, u.oneCell' = true) (h63 : m ≤ maxLen) (hbytes : m * bytes ≤ 140737488355328) :
    ∃ A' c' w', (Builtin.append_ #[t, t] ty #[.slice (some q) 0 0, .slice A m c]).run P w = .ok (.slice A' m c') w' ∧ Lit0 w' w.heap.size e size (.slice A' m c') m news ∧ Ext w w' := by
  rcases Nat.eq_zero_or_pos m with rfl | hm
  · have hn : news = [] := List.eq_nil_of_length_eq_zero (by simpa using hr.1)
    subst hn
    refine ⟨some q, 0, w, ?_, .inr ⟨rfl, rfl, q, rfl⟩, Ext.refl w⟩
    cases A with
    | none => simp [Builtin.append_, run_underlying ht, sizeOf, typeInfo, hi, Builtin.lenOf, Builtin.firstCells, storeCells]
    | some ad =>
      have hfc := run_firstCells_some (P := P) w i.size 0 ad 0 c [] (by simp) (by simp)
      simp [Builtin.append_, run_underlying ht, sizeOf, typeInfo, hi, Builtin.lenOf, hfc, storeCells]
  · obtain ⟨ad, rfl⟩ := hr.some_ hm hsz
    obtain ⟨v', w', hrun, r1, r2⟩ := run_append_arg_grows (P := P) w t ty e i z size bytes ht hi hz hsize hby hzs hsz q 0 0 [] (by simp) (by simp) ad m c news hr.1 hr.cells (by omega) (by simpa using h63) (by simpa using hbytes)
    simp only [Nat.zero_add, List.nil_append] at r1
    obtain ⟨A', c', rfl⟩ := own_slice r1
    exact ⟨A', c', w', hrun, .inl r1, Ext.of_grown r2⟩

/-- .. AT A STEP OF A REGION THAT DRAWS. -/
theorem step_append_new {P : Program} {w : World} {ops : Array Oper} {o : Oper} {a : Act} {K : Act → World → Prop} {Q : Exit → Act → World → Prop} {E : Prop} (hgd : o.guard = none) (s x : Operand) (t : TypeId)
    (ho : o.op = .call { callee := .builtin .append, args := #[s, x], argTypes := #[t, t] })
    (e : TypeId) (i : TypeInfo) (z : Value) (size bytes : Nat) (ht : P.underlying t = some (.slice e)) (hi : P.info? e = some i) (hz : i.zero = some z)
    (hsize : i.size = size) (hby : i.bytes = bytes) (hzs : z.cells.size = size) (hsz : 0 < size)
    (q : Addr) (hs : a.eval s = .slice (some q) 0 0) (A : Option Addr) (m c : Nat) (news : List Value) (hx : a.eval x = .slice A m c) (hr : Rd w size A m news) (h1 : ∀ u ∈ news, u.oneCell' = true)
    (h63 : m ≤ maxLen) (hbytes : m * bytes ≤ 140737488355328)
    (h : ∀ A' c' w', Lit0 w' w.heap.size e size (.slice A' m c') m news → Ext w w' → K (a.put o.dst (.slice A' m c')) w') :
    if Region.wanted o (yielded ops a.tmps) = true then Oper.wp P o a w K Q else E := by
  have hw : Region.wanted o (yielded ops a.tmps) = true := by simp [Region.wanted, hgd]
  rw [if_pos hw]
  obtain ⟨A', c', w', hrun, h2, h3⟩ := run_append_new (P := P) w t o.type e i z size bytes ht hi hz hsize hby hzs hsz q A m c news hr h1 h63 hbytes
  unfold Oper.wp
  simp [execOp, ho, resolve, invoke, builtin, hs, hx, hrun, Result.andThen]
  exact h A' c' w' h2 h3

/-- .. and between which blocks it lies. -/
def RowOr (W : World) (lo hi : Nat) (e : TypeId) (size : Nat) (v : Value) (n : Nat) (xs : List Value) : Prop :=
  (W.ownsRow lo e size v n xs ∧ ∀ k, v.ownBlock = some k → k < hi) ∨ (n = 0 ∧ xs = [] ∧ ∃ q, v = .slice (some q) 0 0)
theorem RowOr.to {W W' : World} {lo hi : Nat} {e : TypeId} {size n : Nat} {v : Value} {xs : List Value} (h : RowOr W lo hi e size v n xs) (hx : Ext W W') : RowOr W' lo hi e size v n xs :=
  h.imp (fun h => ⟨own_ext h.1 hx, h.2⟩) id
theorem Lit0.or {W : World} {base : Nat} {e : TypeId} {size n : Nat} {v : Value} {xs : List Value} (h : Lit0 W base e size v n xs) : RowOr W base W.heap.size e size v n xs :=
  h.imp (fun h => ⟨h, fun k hk => (h.lt k hk).2⟩) id

/-- A row of the call's own that lies in neither of two blocks, or an empty literal. -/
def RowB (W : World) (base b g : Nat) (e : TypeId) (size : Nat) (v : Value) (n : Nat) (xs : List Value) : Prop :=
  (W.ownsRow base e size v n xs ∧ ∀ k, v.ownBlock = some k → k ≠ b ∧ k ≠ g) ∨ (n = 0 ∧ xs = [] ∧ ∃ q, v = .slice (some q) 0 0)
theorem RowB.to {W W' : World} {base b g : Nat} {e : TypeId} {size n : Nat} {v : Value} {xs : List Value} (h : RowB W base b g e size v n xs) (hx : Ext W W') : RowB W' base b g e size v n xs :=
  h.imp (fun h => ⟨own_ext h.1 hx, h.2⟩) id
theorem RowB.only {W W' : World} {base b g j : Nat} {e : TypeId} {size n : Nat} {v : Value} {xs : List Value} (h : RowB W base b g e size v n xs) (ho : Only j W W') (hj : j = b ∨ j = g) : RowB W' base b g e size v n xs :=
  h.imp (fun h => ⟨own_only h.1 ho (fun e => by have := h.2 _ e; omega), h.2⟩) id
theorem RowB.rd {W : World} {base b g : Nat} {e : TypeId} {size n c : Nat} {A : Option Addr} {xs : List Value} (h : RowB W base b g e size (.slice A n c) n xs) : Rd W size A n xs := by
  rcases h with h | ⟨rfl, rfl, q, hq⟩
  · exact Rd.own h.1
  · exact Rd.nil W size A
theorem RowB.slice {W : World} {base b g : Nat} {e : TypeId} {size n : Nat} {v : Value} {xs : List Value} (h : RowB W base b g e size v n xs) : ∃ A c, v = .slice A n c := by
  rcases h with h | ⟨rfl, rfl, q, rfl⟩
  · exact own_slice h.1
  · exact ⟨_, _, rfl⟩

/-- append onto such a row, at a plain region's list. -/
theorem wpList_append_b {P : Program} (w : World) {ops : Array Oper} {rest : List Oper} {o : Oper} {a : Act} {Q : Exit → Act → World → Prop} (hgd : o.guard = none) (s x : Operand) (t : TypeId)
    (ho : o.op = .call { callee := .builtin .append, args := #[s, x], argTypes := #[t, t] })
    (base b g : Nat) (e : TypeId) (i : TypeInfo) (z : Value) (size bytes : Nat) (ht : P.underlying t = some (.slice e)) (hi : P.info? e = some i) (hz : i.zero = some z)
    (hsize : i.size = size) (hby : i.bytes = bytes) (hzs : z.cells.size = size) (hsz : 0 < size)
    (v : Value) (n : Nat) (xs : List Value) (hs : a.eval s = v) (hown : RowB w base b g e size v n xs)
    (A : Option Addr) (m c : Nat) (news : List Value) (hx : a.eval x = .slice A m c) (hr : Rd w size A m news) (h1 : ∀ u ∈ news, u.oneCell' = true) (hm : 0 < m)
    (h63 : n + m ≤ maxLen) (hbytes : (n + m) * bytes ≤ 140737488355328) (hbase : base ≤ w.heap.size) (hb : b < w.heap.size) (hg : g < w.heap.size)
    (h : ∀ A' c' w' r, RowB w' base b g e size (.slice A' (n + m) c') (n + m) (xs ++ news) → w.grownBy w' r → r ≠ some b → r ≠ some g → (∀ k, r = some k → base ≤ k) → wpList P ops Q rest (a.put o.dst (.slice A' (n + m) c')) w') :
    wpList P ops Q (o :: rest) a w := by
  rcases hown with ⟨hown, hap⟩ | ⟨rfl, rfl, q, rfl⟩
  · refine wpList_append_rd w hgd s x t ho base e i z size bytes ht hi hz hsize hby hzs hsz v n xs hs hown A m c news hx hr h1 h63 hbytes hbase fun v' w' g1 g2 g3 => ?_
    obtain ⟨A', c', rfl⟩ := own_slice g1
    refine h A' c' w' _ (.inl ⟨g1, fun k hk => ?_⟩) g2 (fun e => (hap _ e).1 rfl) (fun e => (hap _ e).2 rfl) (fun k hk => (hown.lt k hk).1)
    rcases g3 with e | e
    · exact hap k (by rw [← e]; exact hk)
    · rw [e] at hk
      injection hk with hk
      omega
  · obtain ⟨ad, rfl⟩ := hr.some_ hm hsz
    refine wpList_append_grows w hgd s x t ho e i z size bytes ht hi hz hsize hby hzs hsz (some q) 0 0 [] hs (by simp) (by simp) (by simp) ad m c news hx hr.1 hr.cells h1 (by omega) (by simpa using h63) (by simpa using hbytes) fun v' w' g1 g2 => ?_
    obtain ⟨A', c', rfl⟩ := own_slice g1
    exact h A' c' w' none (.inl ⟨own_base (by simpa using g1) hbase, fun k hk => by have := (g1.lt k hk).1; omega⟩) g2 (by simp) (by simp) (fun k hk => by cases hk)

end Go.Proofs.Ytfoifcbaadnigaa
