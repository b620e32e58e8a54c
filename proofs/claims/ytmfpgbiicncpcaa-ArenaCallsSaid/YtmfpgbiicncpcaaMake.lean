/-
  Contracts: Make.
-/
import Derived.Test.YtmfpgbiicncpcaaNew
import Derived.Test.YtmfpgbiicncpcaaArRight
set_option linter.unusedVariables false
set_option linter.unusedSimpArgs false
namespace Go.Proofs.Ytmfpgbiicncpcaa
open Go.RowKit

theorem own_cap {w : World} {base : Nat} {e : TypeId} {size n m c : Nat} {A : Option Addr} {xs : List Value} (h : w.ownsRow base e size (.slice A m c) n xs) : n ≤ c ∧ c ≤ maxLen ∧ m = n := by
  rcases h.2 with ⟨hv, h0⟩ | ⟨g, cap, cur, hv, _, _, hn, hm, _⟩
  · injection hv with _ h1 h2
    exact ⟨by omega, by unfold maxLen; omega, by omega⟩
  · injection hv with _ h1 h2
    subst h2
    exact ⟨hn, hm, h1⟩

/-- A node that may be made. -/
def Nd.Makes (x : Nd) : Prop := 1 ≤ x.k ∧ x.k ≤ 100 ∧ x.Parts
/-- The same node, of another generation. -/
def Nd.gen (x : Nd) (g : Int) : Nd := { x with g := g }

theorem ArMay.len {ns : List Nd} {fs : List Int} (h : ArMay ns fs) : fs.length ≤ ns.length := by
  have h2 : fs ⊆ (List.range ns.length).map Int.ofNat := fun y hy => by
    have := h.frees.1 y hy
    exact List.mem_map.2 ⟨y.toNat, by simp only [List.mem_range]; omega, by show ((y.toNat : Nat) : Int) = y; omega⟩
  have := h.frees.2.1.length_le_of_subset h2
  simpa using this

set_option maxHeartbeats 1600000 in
theorem make_arg (A B : Option Addr) (n m c d : Nat) (ns : List Nd) (fs : List Int) (x : Nd) (w : World) (h : Ar w A n B m ns fs) (hn : n ≤ 1000) (hm : m ≤ 1000) (hx : x.Ok) (hno : ¬ (ArMay ns fs ∧ x.Makes)) :
    Calls Try.prog 12 #[.agg #[.slice A n c, .slice B m d], .agg x.arr] w fun e w' => e = .returned (.tuple #[.agg #[.slice none 0 0, .slice none 0 0], .int .u64 0, .int .i64 1]) ∧ Ext w w' := by
  obtain ⟨w1, hw1⟩ : ∃ w1, w1 = w.alloc (.cells #[.slice A n c, .slice B m d] 25) := ⟨_, rfl⟩
  obtain ⟨w2, hw2⟩ : ∃ w2, w2 = w1.alloc (.cells x.arr 30) := ⟨_, rfl⟩
  obtain ⟨w3, hw3⟩ : ∃ w3, w3 = w2.alloc (.cells #[.slice none 0 0, .slice none 0 0] 25) := ⟨_, rfl⟩
  obtain ⟨B1, hx1, hs1⟩ := box_made hw1
  obtain ⟨B2, hx2, hs2⟩ := box_made hw2
  obtain ⟨B3, hx3, hs3⟩ := box_made hw3
  rw [hs2, hs1] at B3
  rw [hs1] at B2
  obtain ⟨b, hb⟩ : ∃ b : Bool, b = true ↔ ArMay ns fs := by
    by_cases hq : ArMay ns fs
    · exact ⟨true, by simp [hq]⟩
    · exact ⟨false, by simp [hq]⟩
  have X3 := Lib.hid ((hx1.step hx2).step hx3)
  have HR := Lib.hid (arRight_is A B n m c d ns fs w3 (h.to X3.out) hn hm b hb)
  have HP := Lib.hid (fun W => rightParts_is x W hx)
  have k0 : w3.cell? ⟨w.heap.size, 0, none⟩ = some (.slice A n c) := (B1.to (hx2.step hx3)).cell 0
  have k1 : w3.cell? ⟨w.heap.size, 1, none⟩ = some (.slice B m d) := (B1.to (hx2.step hx3)).cell 1
  have HB2 := Lib.hid (B2.to hx3)
  have HB3 := Lib.hid B3
  have H1 := Lib.hid hw1
  have H2 := Lib.hid hw2
  have H3 := Lib.hid hw3
  have HN := Lib.hid hno
  have HB := Lib.hid hb
  obtain ⟨kk, hkk⟩ : ∃ kk, kk = x.k := ⟨_, rfl⟩
  have HK := Lib.hid hkk
  obtain ⟨t, ht⟩ : ∃ t, t = decide x.Parts := ⟨_, rfl⟩
  rw [← ht] at HP
  have HT := Lib.hid ht
  have HE := Lib.hid (fun (W : World) (hW : Ext w3 W) => show Ext w ((W.setCell ⟨w.heap.size + 2, 0, none⟩ (.slice none 0 0)).setCell ⟨w.heap.size + 2, 1, none⟩ (.slice none 0 0)) ∧ Bx ((W.setCell ⟨w.heap.size + 2, 0, none⟩ (.slice none 0 0)).setCell ⟨w.heap.size + 2, 1, none⟩ (.slice none 0 0)) (w.heap.size + 2) #[.slice none 0 0, .slice none 0 0] from
    ⟨(Only.two W (w.heap.size + 2) _ _).new (X3.out.step hW) (by omega), (HB3.out.to hW).two _ _⟩)
  clear hw1 hw2 hw3 B1 B2 B3 hx1 hx2 hx3 hs1 hs2 hs3 hb hno hkk ht hx h
  go_enter Try.func12, Try.ntmps12
  go_wp2_with fail
  rw [← H1.out, ← H2.out, ← H3.out]
  go_wp2_with fail
  refine HR.out.mono ?_; rintro e w4 ⟨rfl, hx4⟩
  have c0 : w4.cell? ⟨w.heap.size + 1, 0, none⟩ = some (.int .i64 kk) := by rw [HK.out]; exact ((HB2.out.to hx4).cell 0).trans x.a0
  have hn4 := (HB2.out.to hx4).node
  have f0 : w4.cell? ⟨w.heap.size + 2, 0, none⟩ = some (.slice none 0 0) := (HB3.out.to hx4).cell 0
  have f1 : w4.cell? ⟨w.heap.size + 2, 1, none⟩ = some (.slice none 0 0) := (HB3.out.to hx4).cell 1
  have f2 : w4.frozen? ⟨w.heap.size + 2, 0, none⟩ = false := (HB3.out.to hx4).free 0
  have f3 : w4.frozen? ⟨w.heap.size + 2, 1, none⟩ = false := (HB3.out.to hx4).free 1
  have HX4 := Lib.hid hx4
  clear hx4
  cases b
  · go_wp2_with fail
    refine bodyPost_ret (results_ar3 rfl _ _ (w.heap.size + 2) #[.slice none 0 0, .slice none 0 0] (by rfl) (HE.out _ HX4.out).2 rfl) rfl ⟨rfl, (HE.out _ HX4.out).1⟩
  · by_cases g1 : 1 ≤ kk
    · by_cases g2 : kk ≤ 100
      · obtain rfl : t = false := by
          rw [HT.out, decide_eq_false_iff_not]
          exact fun hp => HN.out ⟨HB.out.1 rfl, by rw [← HK.out]; exact g1, by rw [← HK.out]; exact g2, hp⟩
        have d1 : (kk < 1) = False := by simp; omega
        have d2 : (100 < kk) = False := by simp; omega
        go_wp2_with (refine wpList_load_nd (by rfl) _ (by rfl) _ (by rfl) x hn4 ?_)
        refine (HP.out _).mono ?_; rintro e w5 ⟨rfl, hx5⟩
        have f0 : w5.cell? ⟨w.heap.size + 2, 0, none⟩ = some (.slice none 0 0) := (HB3.out.to (HX4.out.step hx5)).cell 0
        have f1 : w5.cell? ⟨w.heap.size + 2, 1, none⟩ = some (.slice none 0 0) := (HB3.out.to (HX4.out.step hx5)).cell 1
        have f2 : w5.frozen? ⟨w.heap.size + 2, 0, none⟩ = false := (HB3.out.to (HX4.out.step hx5)).free 0
        have f3 : w5.frozen? ⟨w.heap.size + 2, 1, none⟩ = false := (HB3.out.to (HX4.out.step hx5)).free 1
        have HX5 := Lib.hid (HX4.out.step hx5)
        clear hx5
        go_wp2_with fail
        refine bodyPost_ret (results_ar3 rfl _ _ (w.heap.size + 2) #[.slice none 0 0, .slice none 0 0] (by rfl) (HE.out _ HX5.out).2 rfl) rfl ⟨rfl, (HE.out _ HX5.out).1⟩
      · go_wp2_with fail
        refine bodyPost_ret (results_ar3 rfl _ _ (w.heap.size + 2) #[.slice none 0 0, .slice none 0 0] (by rfl) (HE.out _ HX4.out).2 rfl) rfl ⟨rfl, (HE.out _ HX4.out).1⟩
    · go_wp2_with fail
      refine bodyPost_ret (results_ar3 rfl _ _ (w.heap.size + 2) #[.slice none 0 0, .slice none 0 0] (by rfl) (HE.out _ HX4.out).2 rfl) rfl ⟨rfl, (HE.out _ HX4.out).1⟩

end Go.Proofs.Ytmfpgbiicncpcaa
