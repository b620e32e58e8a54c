/-
  Words for the laws of tables: keys, rows, what is got.
-/
import Derived.Test.YtfoifcbaadnigaaHlBuild
set_option linter.unusedVariables false
set_option linter.unusedSimpArgs false
namespace Go.Proofs.Ytfoifcbaadnigaa
open Go.RowKit

theorem key40 (q : Int) : ∃ K, (wrap64 (q.tmod 40 + 40)).tmod 40 = K ∧ (0 ≤ K ∧ K < 60) := by
  have h1 : -40 < q.tmod 40 := Int.lt_tmod_of_pos q (by omega)
  have h2 : q.tmod 40 < 40 := Int.tmod_lt_of_pos q (by omega)
  have e : wrap64 (q.tmod 40 + 40) = q.tmod 40 + 40 := by unfold wrap64; omega
  have h3 : 0 ≤ (q.tmod 40 + 40).tmod 40 := Int.tmod_nonneg _ (by omega)
  have h4 : (q.tmod 40 + 40).tmod 40 < 40 := Int.tmod_lt_of_pos _ (by omega)
  exact ⟨_, rfl, by rw [e]; exact ⟨by omega, by omega⟩⟩
theorem key60' (q : Int) : ∃ K, (wrap64 (q.tmod 60 + 60)).tmod 60 = K ∧ (0 ≤ K ∧ K < 60) := by
  have h1 : -60 < q.tmod 60 := Int.lt_tmod_of_pos q (by omega)
  have h2 : q.tmod 60 < 60 := Int.tmod_lt_of_pos q (by omega)
  have e : wrap64 (q.tmod 60 + 60) = q.tmod 60 + 60 := by unfold wrap64; omega
  have h3 : 0 ≤ (q.tmod 60 + 60).tmod 60 := Int.tmod_nonneg _ (by omega)
  have h4 : (q.tmod 60 + 60).tmod 60 < 60 := Int.tmod_lt_of_pos _ (by omega)
  exact ⟨_, rfl, by rw [e]; exact ⟨by omega, by omega⟩⟩
theorem has_put' (l : Row) (k v : Int) : HasK (putR l k v) k := ⟨v, by simp [putR]⟩
theorem del_put' {l : Row} (h : Srt l) (k v : Int) : delR (putR l k v) k = delR l k := by
  by_cases hk : HasK l k
  · obtain ⟨u, hu⟩ := hk
    obtain ⟨a, b, rfl⟩ := List.append_of_mem hu
    rw [put_here h, del_here h]
    have h' : Srt (a ++ (k, v) :: b) := by
      have := h.putR k v
      rwa [put_here h] at this
    exact del_here h'
  · have h' := h.putR k v
    rw [put_new h hk] at h' ⊢
    rw [del_here h', lo_ge h]
    exact (List.filter_eq_self.2 (fun x hx => by simp only [decide_eq_true_eq]; exact fun e => hk ⟨x.2, by rw [← e]; exact hx⟩)).symm
theorem put_put' {l : Row} (h : Srt l) (k v : Int) : putR (putR l k v) k v = putR l k v := put_here (h.putR k v)
theorem getR_mem {l m : Row} {q : Int} (hl : Srt l) (hm : Srt m) (h : ∀ v, (q, v) ∈ l ↔ (q, v) ∈ m) : getR l q = getR m q := by
  by_cases hk : HasK l q
  · obtain ⟨v, hv⟩ := hk
    rw [getR_has hl hv, getR_has hm ((h v).1 hv)]
  · rw [getR_none hk, getR_none (fun ⟨v, hv⟩ => hk ⟨v, (h v).2 hv⟩)]
theorem getR_put {l : Row} (hs : Srt l) {k q : Int} (v : Int) (h : k ≠ q) : getR (putR l k v) q = getR l q :=
  getR_mem (hs.putR k v) hs fun u => by
    rw [mem_put]
    constructor
    · rintro (e | ⟨e, _⟩)
      · injection e with e1 _
        exact absurd e1.symm h
      · exact e
    · exact fun e => .inr ⟨e, fun e' => h e'.symm⟩
theorem getR_del {l : Row} (hs : Srt l) {k q : Int} (h : k ≠ q) : getR (delR l k) q = getR l q :=
  getR_mem (hs.filter _) hs fun u => by
    unfold delR
    rw [List.mem_filter]
    simp only [ne_eq, decide_eq_true_eq]
    exact ⟨fun e => e.1, fun e => ⟨e, fun e' => h e'.symm⟩⟩
theorem getR_gone (l : Row) (k : Int) : getR (delR l k) k = (0, 3) := getR_none fun ⟨v, hv⟩ => by
  unfold delR at hv
  have := (List.mem_filter.1 hv).2
  simp at this
theorem need_le {l : Row} {n : Nat} (h : l.length ≤ n) : need 0 l ≤ n + 11 * (n / 2) := by
  unfold need
  have h2 : l.length / 2 ≤ n / 2 := Nat.div_le_div_right h
  have := Nat.mul_le_mul_left 11 h2
  simp only [Nat.sub_zero]
  omega

end Go.Proofs.Ytfoifcbaadnigaa
