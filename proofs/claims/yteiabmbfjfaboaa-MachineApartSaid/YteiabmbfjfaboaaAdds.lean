/-
  Contracts of the statements' helpers: adds; machine.Step.
-/
import Derived.Test.YteiabmbfjfaboaaHelp
set_option linter.unusedVariables false
set_option linter.unusedSimpArgs false
namespace Go.Proofs.Yteiabmbfjfaboaa
open Go.RowKit

theorem Bx.grown {W W' : World} {b : Nat} {cs : Array Value} {r : Option Nat} (h : Bx W b cs) (hg : W.grownBy W' r) (hr : r ≠ some b) : Bx W' b cs := by
  have e := hg.block b h.lt (fun e => hr (by rw [e]))
  exact ⟨Nat.lt_of_lt_of_le h.lt hg.size, fun j => (World.cell?_of_block (a := ⟨b, j, none⟩) e).trans (h.cell j), fun j => by
    have := h.free j
    unfold World.frozen? at this ⊢
    rw [e]
    exact this⟩
theorem Bx.set {W : World} {b : Nat} {cs : Array Value} (h : Bx W b cs) {j : Nat} (hj : j < cs.size) (u : Value) : Bx (W.setCell ⟨b, j, none⟩ u) b (cs.setIfInBounds j u) := by
  refine ⟨by simpa [World.setCell] using h.lt, fun i => ?_, fun i => by rw [World.frozen?_setCell]; exact h.free i⟩
  have h0 := (h.cell j).trans (Array.getElem?_eq_getElem hj)
  by_cases e : j = i
  · subst e
    rw [World.cell?_setCell_same _ _ _ h0]
    simp [hj]
  · rw [World.cell?_setCell_other _ _ _ _ (fun x => e (by injection x)), h.cell i]
    simp [Array.getElem?_setIfInBounds, e]
theorem own_only {b : Nat} {W W' : World} {base : Nat} {e : TypeId} {size n : Nat} {v : Value} {xs : List Value} (h : W.ownsRow base e size v n xs) (ho : Only b W W') (hne : v.ownBlock ≠ some b) : W'.ownsRow base e size v n xs := by
  refine ⟨h.1, ?_⟩
  rcases h.2 with h' | ⟨g, cap, cur, rfl, hb, hg, hr⟩
  · exact .inl h'
  · refine .inr ⟨g, cap, cur, rfl, hb, ?_, hr⟩
    rw [← hg]
    exact ho.block g (Array.getElem?_eq_some_iff.1 hg).1 (fun e => hne (by rw [← e]; rfl))

/-- An instruction that adds 1 to a word; one that ends; the process that does the first so many times. -/
abbrev addI (at_ : Int) : Ins := ⟨4, 0, at_, 1, 0⟩
abbrev endI : Ins := ⟨8, 0, 0, 0, 0⟩
def addsP (at_ : Int) (many : Nat) : Pc := ⟨List.replicate many (addI at_) ++ [endI], 0, fun _ => 0, false, 0⟩
theorem addsP_length (at_ : Int) (many : Nat) : (addsP at_ many).prog.length = many + 1 := by simp [addsP]
theorem addsP_may (at_ : Int) (many : Nat) (h0 : 0 ≤ at_) (h1 : at_ ≤ 63) (h2 : many ≤ 63) : (addsP at_ many).May := by
  refine ⟨by rw [addsP_length]; omega, by rw [addsP_length]; simp only [addsP]; omega, by simp [addsP], fun x hx => ?_⟩
  simp [addsP] at hx
  rcases hx with ⟨_, rfl⟩ | rfl
  · exact ⟨⟨by simp, by simp⟩, ⟨by simp, by simp⟩, ⟨h0, h1⟩, by simp, by simp⟩
  · exact ⟨⟨by simp, by simp⟩, ⟨by simp, by simp⟩, ⟨by simp, by simp⟩, by simp, by simp⟩
theorem flat_snoc {α : Type} (f : α → List Value) (xs : List α) (x : α) : flat f xs ++ f x = flat f (xs ++ [x]) := by simp [flat]
theorem rep_snoc {α : Type} (k : Nat) (x : α) : List.replicate k x ++ [x] = List.replicate (k + 1) x := by rw [List.replicate_succ']

set_option maxHeartbeats 1000000 in
theorem adds_is (at_ : Int) (many : Nat) (hm : many ≤ 63) (w : World) :
    Calls Try.prog 21 #[.int .i64 at_, .int .i64 many] w fun e w' => ∃ B c, e = .returned (.agg #[.slice B ((addsP at_ many)).prog.length c, .int .i64 ((addsP at_ many)).at_, .int .u64 (((addsP at_ many)).rs 0), .int .u64 (((addsP at_ many)).rs 1), .int .u64 (((addsP at_ many)).rs 2), .int .u64 (((addsP at_ many)).rs 3), .bool ((addsP at_ many)).done, .int .i64 ((addsP at_ many)).took]) ∧ Prg w' B (addsP at_ many).prog ∧ Ext w w' ∧ ∀ q, B = some q → w.heap.size ≤ q.block := by
  obtain ⟨i0, hi0, hz0, hz1, hz2⟩ := info_parts instr_info
  go_enter Try.func21, Try.ntmps21
  go_wp2_with fail
  go_loopw [8] (fun j wr => Ext w wr ∧ ∃ (k : Nat) (v : Value), k ≤ many ∧ j = .int .i64 k ∧ wr.ownsRow (w.heap.size + 2) 50 5 v k (flat Ins.cells (List.replicate k (addI at_))) ∧ Bx wr w.heap.size #[.slice none 0 0, .int .i64 0, .int .u64 0, .int .u64 0, .int .u64 0, .int .u64 0, .bool false, .int .i64 0] ∧
    Bx wr (w.heap.size + 1) #[v, .int .i64 0, .int .u64 0, .int .u64 0, .int .u64 0, .int .u64 0, .bool false, .int .i64 0]) (fun j _ => many - (intOf j).toNat)
  case atStart =>
    refine ⟨((Ext.refl w).new _).new _, 0, .slice none 0 0, Nat.zero_le _, rfl, ⟨rfl, .inl ⟨rfl, rfl⟩⟩, (Bx.new w _ _).alloc _, by simpa using Bx.new (w.alloc _) _ _⟩
  case round =>
    obtain ⟨hx, k, v, hk, rfl, hown, B4, B5⟩ := hrel
    have k5 := B5.cell
    have hz := B5.lt
    obtain ⟨vA, vc, rfl⟩ := own_slice hown
    have hnb : ∀ b, b < w.heap.size + 2 → (Value.slice vA k vc).ownBlock ≠ some b := fun b hb e => by
      have := (hown.lt b e).1
      omega
    by_cases hlt : k < many
    · have hr := Rd.lit wr #[.int .i64 4, .int .i64 0, .int .i64 at_, .int .u64 1, .int .i64 0] 50 1 (size := 5) rfl
      have ho := hown.alloc (.cells #[.int .i64 4, .int .i64 0, .int .i64 at_, .int .u64 1, .int .i64 0] 50)
      go_wp2_with (first
        | (at_builtin
           refine wpList_append_rd _ rfl (.tmp 11) (.tmp 14) _ rfl (w.heap.size + 2) 50 i0 _ 5 40 Try.underlying23 hi0 hz0 hz1 hz2 rfl (by omega) _ k _ rfl ho _ 1 1 _ rfl hr (Ins.cells_one (addI at_)) (by simp only [maxLen]; omega) (by omega) (by simp; omega) ?_
           intro v1 w1 hown1 hg1 hat1
           obtain ⟨A1, c1, rfl⟩ := own_slice hown1
           have B4' := (B4.alloc (.cells #[.int .i64 4, .int .i64 0, .int .i64 at_, .int .u64 1, .int .i64 0] 50)).grown hg1 (hnb _ (by omega))
           have B5' := (B5.alloc (.cells #[.int .i64 4, .int .i64 0, .int .i64 at_, .int .u64 1, .int .i64 0] 50)).grown hg1 (hnb _ (by omega))
           have q5 := B5'.cell
           have f5 := B5'.free))
      have Eb := own_back (hx.new (.cells #[.int .i64 4, .int .i64 0, .int .i64 at_, .int .u64 1, .int .i64 0] 50)) (by simp; omega) hg1 (fun q hq => by have := (ho.lt q hq).1; omega)
      go_roundw
      case rel =>
        refine ⟨Ext.set Eb _ (by omega), k + 1, .slice A1 (k + 1) c1, by omega, by go_num, ?_, ?_, ?_⟩
        · rw [← rep_snoc, ← flat_snoc]
          exact own_only hown1 ((Only.refl _ _).set 0 _) (fun e => by have := (hown1.lt _ e).1; omega)
        · exact ((Only.refl _ _).set 0 _).bx B4' (by omega)
        · exact B5'.set (by simp) _
      case measure => simp [intOf]; omega
    · have hk' : k = many := by omega
      subst hk'
      have hr := Rd.lit wr #[.int .i64 8, .int .i64 0, .int .i64 0, .int .u64 0, .int .i64 0] 50 1 (size := 5) rfl
      have ho := hown.alloc (.cells #[.int .i64 8, .int .i64 0, .int .i64 0, .int .u64 0, .int .i64 0] 50)
      go_wp2_with (first
        | (at_builtin
           refine wpList_append_rd _ rfl (.tmp 19) (.tmp 21) _ rfl (w.heap.size + 2) 50 i0 _ 5 40 Try.underlying23 hi0 hz0 hz1 hz2 rfl (by omega) _ k _ rfl ho _ 1 1 _ rfl hr (Ins.cells_one endI) (by simp only [maxLen]; omega) (by omega) (by simp; omega) ?_
           intro v1 w1 hown1 hg1 hat1
           obtain ⟨A1, c1, rfl⟩ := own_slice hown1
           have B4' := (B4.alloc (.cells #[.int .i64 8, .int .i64 0, .int .i64 0, .int .u64 0, .int .i64 0] 50)).grown hg1 (hnb _ (by omega))
           have B5' := (B5.alloc (.cells #[.int .i64 8, .int .i64 0, .int .i64 0, .int .u64 0, .int .i64 0] 50)).grown hg1 (hnb _ (by omega))
           have q4 := B4'.cell
           have f4 := B4'.free
           have z4 := B4'.lt
           have q5 := B5'.cell
           have f5 := B5'.free))
      have Eb := own_back (hx.new (.cells #[.int .i64 8, .int .i64 0, .int .i64 0, .int .u64 0, .int .i64 0] 50)) (by simp; omega) hg1 (fun q hq => by have := (ho.lt q hq).1; omega)
      refine bodyPost_ret (v := .agg #[.slice A1 (k + 1) c1, .int .i64 0, .int .u64 0, .int .u64 0, .int .u64 0, .int .u64 0, .bool false, .int .i64 0]) (by simp [results, Try.results21, go_sem, *]) rfl ?_
      have hf : ∀ q, A1 = some q → w.heap.size + 2 ≤ q.block := fun q hq => (hown1.lt q.block (by rw [hq]; rfl)).1
      refine ⟨A1, ⟨c1, by rw [addsP_length]; rfl⟩, ?_, ?_, fun q hq => by have := hf q hq; omega⟩
      · have hrd := Rd.own hown1
        rw [show flat Ins.cells (List.replicate k (addI at_)) ++ #[Value.int .i64 8, .int .i64 0, .int .i64 0, .int .u64 0, .int .i64 0].toList = flat Ins.cells (addsP at_ k).prog from flat_snoc Ins.cells _ endI] at hrd
        unfold Prg
        rw [addsP_length]
        repeat (first | with_reducible refine Rd.drew ?_ | with_reducible refine Rd.past hf (by omega) ?_)
        exact hrd
      · repeat (first | with_reducible refine Ext.drew ?_ | with_reducible refine Ext.set ?_ _ (by omega))
        exact Eb

end Go.Proofs.Yteiabmbfjfaboaa
