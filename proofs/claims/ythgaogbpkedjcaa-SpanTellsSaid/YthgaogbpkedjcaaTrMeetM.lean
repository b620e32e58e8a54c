/-
  The mathematics of isMap: which references are maps', met in order.
-/
import Derived.Test.YthgaogbpkedjcaaTrTop
set_option linter.unusedVariables false
set_option linter.unusedSimpArgs false
namespace Go.Proofs.Ythgaogbpkedjcaa
open Go.RowKit

def Inc (l : List Int) : Prop := l.Pairwise (· < ·)
def T.keys (t : T) : List Int := t.row.map (·.1)
theorem srt_inc {l : Row} : Srt l ↔ Inc (l.map (·.1)) := by
  unfold Srt Inc
  rw [List.pairwise_map]
theorem Inc.app {a b : List Int} : Inc (a ++ b) ↔ Inc a ∧ Inc b ∧ ∀ x ∈ a, ∀ y ∈ b, x < y := List.pairwise_append
theorem Inc.nodup {l : List Int} (h : Inc l) : l.Nodup := by
  unfold Inc at h
  exact h.imp (fun {a b} hab => by omega)
theorem inc_last {l : List Int} {z k : Int} (h : Inc (l ++ [z])) : Inc (l ++ [z] ++ [k]) ↔ z < k := by
  rw [Inc.app]
  constructor
  · rintro ⟨_, _, h3⟩
    exact h3 z (by simp) k (by simp)
  · intro hz
    refine ⟨h, by simp [Inc], fun x hx y hy => ?_⟩
    simp at hy
    subst hy
    rcases List.mem_append.1 hx with hx | hx
    · have := (Inc.app.1 h).2.2 x hx z (by simp); omega
    · simp at hx; omega

/-- How many nodes come behind a key. -/
def After (ns : List Nd) (k : Int) : Nat := ns.countP (fun y => bef k y.n)
theorem after_le (ns : List Nd) (k : Int) : After ns k ≤ ns.length := List.countP_le_length
theorem after_lt {ns : List Nd} {k : Int} {x : Nd} (hx : x ∈ ns) (h : Bef k x.n) : After ns x.n < After ns k := by
  obtain ⟨a, b, rfl⟩ := List.append_of_mem hx
  unfold After
  rw [List.countP_append, List.countP_append, List.countP_cons, List.countP_cons]
  have hm : ∀ l : List Nd, l.countP (fun y => bef x.n y.n) ≤ l.countP (fun y => bef k y.n) := fun l =>
    List.countP_mono_left (fun y _ hy => bef_iff.2 (h.trans (bef_iff.1 hy)))
  have h1 := hm a
  have h2 := hm b
  have e1 : bef x.n x.n = false := bef_not.2 (Bef.irrefl _)
  have e2 : bef k x.n = true := bef_iff.2 h
  rw [e1, e2]
  simp
  omega

structure GoodT (ns : List Nd) (keys : List Int) (r : Int) (t : T) : Prop where
  rep : Rep ns t
  ref : t.ref = r
  hp : Hp t
  le : t.size ≤ 200
  inc : Inc (keys ++ t.keys)
theorem rep_s {ns : List Nd} {t : T} (h : Rep ns t) : (nodeF ns t.ref).s = t.size := by
  cases t with
  | nil => rw [show T.nil.ref = 0 from rfl, nodeF_zero]; rfl
  | node r l k v u =>
    obtain ⟨x, hx⟩ := h.nod
    rw [show (T.node r l k v u).ref = r from rfl, hx.at_, hx.s]
    rfl
theorem rep_keys {ns : List Nd} {t : T} (h : Rep ns t) : ∀ k ∈ t.keys, k ∈ ns.map (·.n) := by
  induction t with
  | nil => intro k hk; simp [T.keys, T.row] at hk
  | node r l k v u ih1 ih2 =>
    intro q hq
    obtain ⟨⟨p, g, hg⟩, h1, h2⟩ := h
    simp only [T.keys, T.row, List.map_append, List.map_cons, List.mem_append, List.mem_cons] at hq
    rcases hq with hq | rfl | hq
    · exact ih1 h1 q hq
    · exact List.mem_map.2 ⟨_, List.mem_of_getElem? hg.at_, rfl⟩
    · exact ih2 h2 q hq
theorem hp_kid {ns : List Nd} {k : Int} {t : T} (hr : Rep ns t) (hh : Hp t) : KidOk ns k t.ref ↔ ∀ x ∈ t.row, Bef k x.1 := by
  cases t with
  | nil => exact ⟨fun _ x hx => by simp [T.row] at hx, fun _ => .inl rfl⟩
  | node r l q v u =>
    obtain ⟨x, hx⟩ := hr.nod
    have hn : (nodeF ns (T.node r l q v u).ref).n = q := by rw [show (T.node r l q v u).ref = r from rfl, hx.at_, hx.n]
    constructor
    · rintro (h | h)
      · exact absurd h hr.ref_nz
      · rw [hn] at h
        intro y hy
        simp only [T.row] at hy
        rcases List.mem_append.1 hy with hy | hy
        · exact h.trans (hh.1 y hy)
        · rcases List.mem_cons.1 hy with hy | hy
          · rw [hy]; exact h
          · exact h.trans (hh.2.1 y hy)
    · intro h
      right
      rw [hn]
      exact h (q, v) (by simp [T.row])
theorem keys_node (r : Int) (l : T) (k v : Int) (u : T) (keys : List Int) : keys ++ (T.node r l k v u).keys = keys ++ l.keys ++ [k] ++ u.keys := by simp [T.keys, T.row]

theorem good_zero {ns : List Nd} {keys : List Int} (h : Inc keys) : GoodT ns keys 0 .nil := ⟨trivial, rfl, trivial, Nat.zero_le _, by simpa [T.keys, T.row] using h⟩
theorem good_node {ns : List Nd} {keys : List Int} {r : Int} {p : Nat} {x : Nd} {l u : T} (hg : Got ns r p x) (ht : TopOk ns x) (h1 : GoodT ns keys x.r0 l) (h2 : GoodT ns (keys ++ l.keys ++ [x.n]) x.r1 u) : GoodT ns keys r (.node r l x.n x.v u) := by
  have e1 := rep_s h1.rep
  have e2 := rep_s h2.rep
  rw [h1.ref] at e1
  rw [h2.ref] at e2
  have hi := ht.is
  rw [e1, e2, sumI_is (by omega) (by omega) (by have := h1.le; have := h2.le; omega)] at hi
  have hs : x.s = (l.size : Int) + u.size + 1 := by rw [hi]; rfl
  refine ⟨⟨⟨p, x.g, ?_⟩, h1.rep, h2.rep⟩, rfl, ⟨?_, ?_, h1.hp, h2.hp⟩, ?_, ?_⟩
  · rw [h1.ref, h2.ref]
    rw [hi] at hg
    simpa using hg
  · exact (hp_kid h1.rep h1.hp).1 (by rw [h1.ref]; exact ht.k0)
  · exact (hp_kid h2.rep h2.hp).1 (by rw [h2.ref]; exact ht.k1)
  · have := ht.le
    simp only [T.size]
    omega
  · rw [keys_node]
    exact h2.inc
theorem good_inv {ns : List Nd} {keys : List Int} {r : Int} {p : Nat} {x : Nd} {t : T} (hg : Got ns r p x) (h : GoodT ns keys r t) :
    TopOk ns x ∧ ∃ l u, GoodT ns keys x.r0 l ∧ Inc (keys ++ l.keys ++ [x.n]) ∧ GoodT ns (keys ++ l.keys ++ [x.n]) x.r1 u := by
  cases t with
  | nil => exact absurd h.ref.symm (got_nz hg)
  | node r' l k v u =>
    obtain rfl : r' = r := h.ref
    obtain ⟨⟨p', g, hg'⟩, hl, hu⟩ := h.rep
    obtain ⟨_, rfl⟩ := got_one hg hg'
    have hle := h.le
    have hinc := h.inc
    simp only [T.size] at hle
    rw [keys_node] at hinc
    have i1 := Inc.app.1 hinc
    have i2 := Inc.app.1 i1.1
    have e1 := rep_s hl
    have e2 := rep_s hu
    refine ⟨⟨?_, by simp [trNd]; omega, (hp_kid hl h.hp.2.2.1).2 h.hp.1, (hp_kid hu h.hp.2.2.2).2 h.hp.2.1⟩, l, u, ⟨hl, rfl, h.hp.2.2.1, by omega, i2.1⟩, i1.1, ⟨hu, rfl, h.hp.2.2.2, by omega, hinc⟩⟩
    simp only [trNd]
    rw [e1, e2, sumI_is (by omega) (by omega) (by omega)]
    simp
theorem good_top {ns : List Nd} {keys : List Int} {r : Int} {t : T} (hr : r ≠ 0) (h : GoodT ns keys r t) : TopOk ns (nodeF ns r) := by
  rcases got_or ns r with ⟨p, x, hg⟩ | hg
  · rw [nodeF_got hg]; exact (good_inv hg h).1
  · exfalso
    cases t with
    | nil => exact hr h.ref.symm
    | node r' l k v u =>
      obtain rfl : r' = r := h.ref
      obtain ⟨⟨p', g, hg'⟩, _⟩ := h.rep
      exact hg _ _ hg'
theorem top_got {ns : List Nd} {r : Int} (h : TopOk ns (nodeF ns r)) : ∃ p x, Got ns r p x ∧ nodeF ns r = x ∧ TopOk ns x := by
  rcases got_or ns r with ⟨p, x, hg⟩ | hg
  · have e := nodeF_got hg
    rw [e] at h
    exact ⟨p, x, hg, e, h⟩
  · have h' := h.is
    rw [nodeF_gone hg] at h'
    have := congrArg Nd.k h'
    simp [bare, trNd] at this
theorem kid_after {ns : List Nd} {k z : Int} {d : Nat} (hk : KidOk ns k z) (hd : After ns k < d + 1) : ∀ p x, Got ns z p x → After ns x.n < d := by
  intro p x hg
  rcases hk with rfl | hk
  · exact absurd rfl (got_nz hg)
  · rw [nodeF_got hg] at hk
    have := after_lt (List.mem_of_getElem? hg.at_) hk
    omega

/-- Keys that were met. -/
structure KeyOk (ns : List Nd) (keys : List Int) : Prop where
  inc : Inc keys
  sub : ∀ k ∈ keys, k ∈ ns.map (·.n)
theorem KeyOk.len {ns : List Nd} {keys : List Int} (h : KeyOk ns keys) : keys.length ≤ ns.length := by
  have := h.inc.nodup.length_le_of_subset (fun k hk => h.sub k hk)
  simpa using this
theorem KeyOk.good {ns : List Nd} {keys : List Int} {r : Int} {t : T} (h : KeyOk ns keys) (hg : GoodT ns keys r t) : KeyOk ns (keys ++ t.keys) :=
  ⟨hg.inc, fun k hk => by
    rcases List.mem_append.1 hk with hk | hk
    · exact h.sub k hk
    · exact rep_keys hg.rep k hk⟩
theorem KeyOk.snoc {ns : List Nd} {keys : List Int} {k : Int} (h : KeyOk ns keys) (hi : Inc (keys ++ [k])) (hk : k ∈ ns.map (·.n)) : KeyOk ns (keys ++ [k]) :=
  ⟨hi, fun q hq => by
    rcases List.mem_append.1 hq with hq | hq
    · exact h.sub q hq
    · simp at hq; subst hq; exact hk⟩
theorem mapAt_good {ns : List Nd} {r : Int} : MapAt ns r ↔ ∃ t, GoodT ns [] r t := by
  constructor
  · rintro ⟨t, h, e⟩
    exact ⟨t, h.rep, e, h.hp, h.le, by simpa [T.keys] using srt_inc.1 h.srt⟩
  · rintro ⟨t, h⟩
    exact ⟨t, ⟨h.rep, srt_inc.2 (by simpa [T.keys] using h.inc), h.hp, h.le⟩, h.ref⟩

end Go.Proofs.Ythgaogbpkedjcaa
