/-
  Mathematics: the row of keys that are put one after another does not hang on their order.
-/
import Derived.Test.YtaibndajfmjfnaaTrPut
import Derived.Test.YtaibndajfmjfnaaRfPut
set_option linter.unusedVariables false
set_option linter.unusedSimpArgs false
namespace Go.Proofs.Ytaibndajfmjfnaa
open Go.RowKit

def shp (ks : List Int) : Row := ks.foldl (fun r k => putR r k k) []
theorem shp_snoc (ks : List Int) (k : Int) : shp (ks ++ [k]) = putR (shp ks) k k := by simp [shp, List.foldl_append]
theorem shp_all (ks : List Int) : ∀ js, js = ks.reverse → Srt (shp js.reverse.reverse) := by
  intro js _
  rw [List.reverse_reverse]
  suffices h : ∀ (l : List Int) (r : Row), Srt r → Srt (l.foldl (fun r k => putR r k k) r) from h js [] (by simp [Srt])
  intro l
  induction l with
  | nil => intro r h; exact h
  | cons k l ih => intro r h; exact ih _ (h.putR k k)
theorem shp_srt (ks : List Int) : Srt (shp ks) := by
  have := shp_all ks.reverse ks (by simp)
  simpa using this
theorem mem_put {l : Row} {k v : Int} {x : Int × Int} : x ∈ putR l k v ↔ x = (k, v) ∨ (x ∈ l ∧ x.1 ≠ k) := by
  unfold putR
  rw [List.mem_append, List.mem_cons, mem_lo, mem_hi]
  constructor
  · rintro (⟨h1, h2⟩ | h | ⟨h1, h2⟩)
    · exact .inr ⟨h1, by omega⟩
    · exact .inl h
    · exact .inr ⟨h1, by omega⟩
  · rintro (h | ⟨h1, h2⟩)
    · exact .inr (.inl h)
    · rcases (by omega : x.1 < k ∨ k < x.1) with h | h
      · exact .inl ⟨h1, h⟩
      · exact .inr (.inr ⟨h1, h⟩)
theorem shp_mem (ks : List Int) (x : Int × Int) : x ∈ shp ks ↔ x.1 ∈ ks ∧ x.2 = x.1 := by
  suffices h : ∀ (l : List Int) (r : Row), (x ∈ l.foldl (fun r k => putR r k k) r ↔ (x.1 ∈ l ∧ x.2 = x.1) ∨ (x.1 ∉ l ∧ x ∈ r)) by
    have := h ks []
    unfold shp
    rw [this]
    simp
  intro l
  induction l with
  | nil => intro r; simp
  | cons k l ih =>
    intro r
    rw [List.foldl_cons, ih, mem_put]
    obtain ⟨a, b⟩ := x
    simp only [Prod.mk.injEq, List.mem_cons]
    by_cases h1 : a ∈ l
    · simp [h1]
    · by_cases h2 : a = k
      · subst h2; simp [h1]
      · simp [h1, h2]
theorem srt_ext : ∀ (a b : Row), Srt a → Srt b → (∀ x, x ∈ a ↔ x ∈ b) → a = b
  | [], [], _, _, _ => rfl
  | [], y :: b, _, _, h => by have := (h y).2 (by simp); simp at this
  | x :: a, [], _, _, h => by have := (h x).1 (by simp); simp at this
  | x :: a, y :: b, ha, hb, h => by
    have pa := List.pairwise_cons.1 ha
    have pb := List.pairwise_cons.1 hb
    have hxy : x = y := by
      have h1 := (h x).1 (by simp)
      have h2 := (h y).2 (by simp)
      rcases List.mem_cons.1 h1 with h1 | h1
      · exact h1
      · rcases List.mem_cons.1 h2 with h2 | h2
        · exact h2.symm
        · have := pb.1 x h1; have := pa.1 y h2; omega
    subst hxy
    rw [srt_ext a b pa.2 pb.2 (fun z => by
      constructor
      · intro hz
        have h1 := (h z).1 (by simp [hz])
        rcases List.mem_cons.1 h1 with h1 | h1
        · subst h1; have := pa.1 z hz; omega
        · exact h1
      · intro hz
        have h1 := (h z).2 (by simp [hz])
        rcases List.mem_cons.1 h1 with h1 | h1
        · subst h1; have := pb.1 z hz; omega
        · exact h1)]
theorem shp_len (ks : List Int) : (shp ks).length ≤ ks.length := by
  suffices h : ∀ (l : List Int) (r : Row), Srt r → (l.foldl (fun r k => putR r k k) r).length ≤ r.length + l.length by
    have := h ks [] (by simp [Srt])
    simpa [shp] using this
  intro l
  induction l with
  | nil => intro r _; simp
  | cons k l ih =>
    intro r hr
    have h1 := ih _ (hr.putR k k)
    have h2 := (put_le hr (k := k) (v := k)).1
    simp only [List.foldl_cons, List.length_cons]
    omega

/-- The key of a number. -/
def ky (z : Int) : Int := (z.tmod 50 + 50).tmod 50
theorem ky_in (z : Int) : 0 ≤ ky z ∧ ky z < 50 := by
  unfold ky
  have h1 : -50 < z.tmod 50 := Int.lt_tmod_of_pos z (by omega)
  have h2 := Int.tmod_nonneg 50 (show 0 ≤ z.tmod 50 + 50 by omega)
  have h3 := Int.tmod_lt_of_pos (z.tmod 50 + 50) (show (0 : Int) < 50 by omega)
  omega

/-- The place that stands so far on, round about. -/
def rot (s n i : Nat) : Nat := (i + s) % n
/-- The keys, and the keys from another place on. -/
def keysA (zs : List Int) : List Int := zs.map ky
def keysB (zs : List Int) (s : Nat) : List Int := (List.range zs.length).map fun i => ky (zs.getD (rot s zs.length i) 0)
theorem keys_same (zs : List Int) (s : Nat) : shp (keysA zs) = shp (keysB zs s) := by
  refine srt_ext _ _ (shp_srt _) (shp_srt _) (fun x => ?_)
  rw [shp_mem, shp_mem]
  have : x.1 ∈ keysA zs ↔ x.1 ∈ keysB zs s := by
    simp only [keysA, keysB, List.mem_map, List.mem_range]
    constructor
    · rintro ⟨z, hz, he⟩
      obtain ⟨i, hi, rfl⟩ := List.mem_iff_getElem.1 hz
      have hn : 0 < zs.length := by omega
      have hs : s % zs.length < zs.length := Nat.mod_lt _ hn
      refine ⟨(i + (zs.length - s % zs.length)) % zs.length, Nat.mod_lt _ hn, ?_⟩
      have e : rot s zs.length ((i + (zs.length - s % zs.length)) % zs.length) = i := by
        unfold rot
        rw [Nat.add_mod, Nat.mod_mod, ← Nat.add_mod, Nat.add_mod _ s, ← Nat.mod_mod s, ← Nat.add_mod, Nat.mod_mod]
        rw [show i + (zs.length - s % zs.length) + s % zs.length = i + zs.length by omega]
        rw [Nat.add_mod_right, Nat.mod_eq_of_lt hi]
      rw [e, List.getD_eq_getElem?_getD, List.getElem?_eq_getElem hi]
      exact he
    · rintro ⟨i, hi, he⟩
      have hn : 0 < zs.length := by omega
      have hr : rot s zs.length i < zs.length := Nat.mod_lt _ hn
      refine ⟨_, List.getElem_mem hr, ?_⟩
      rw [← he, List.getD_eq_getElem?_getD, List.getElem?_eq_getElem hr]; rfl
  rw [this]
end Go.Proofs.Ytaibndajfmjfnaa
