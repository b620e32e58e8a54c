/-
  The document's own step (ref.Step): what it answers of every process that may be.
-/
import Derived.Test.YteiabmbfjfaboaaRsA
import Derived.Test.YteiabmbfjfaboaaRsB
import Derived.Test.YteiabmbfjfaboaaRsC
import Derived.Test.YteiabmbfjfaboaaRsD
set_option linter.unusedVariables false
set_option linter.unusedSimpArgs false
namespace Go.Proofs.Yteiabmbfjfaboaa
open Go.RowKit

theorem ref_is (ad : Addr) (c : Nat) (ws : List Int) (A : Option Addr) (d : Nat) (p : Pc) (w : World) (h : Rd w 1 (some ad) 64 (Us ws)) (hp : Prg w A p.prog) (hm : p.May) :
    Calls Try.prog 17 #[.slice (some ad) 64 c, .agg #[.slice A p.prog.length d, .int .i64 p.at_, .int .u64 (p.rs 0), .int .u64 (p.rs 1), .int .u64 (p.rs 2), .int .u64 (p.rs 3), .bool p.done, .int .i64 p.took]] w fun e w' => ∃ A' c', e = .returned (.agg #[.slice A' 64 c', .slice A ((stp ws p).2).prog.length d, .int .i64 ((stp ws p).2).at_, .int .u64 (((stp ws p).2).rs 0), .int .u64 (((stp ws p).2).rs 1), .int .u64 (((stp ws p).2).rs 2), .int .u64 (((stp ws p).2).rs 3), .bool ((stp ws p).2).done, .int .i64 ((stp ws p).2).took]) ∧ Rd w' 1 A' 64 (Us (stp ws p).1) ∧ Ext w w' ∧ ∀ q, A' = some q → q = ad ∨ w.heap.size ≤ q.block := by
  by_cases hd : p.done = true
  · have e : stp ws p = (ws, p) := by unfold stp; rw [if_pos (.inl hd)]
    rw [e]
    exact (ref_done (some ad) 64 c A d p w hd).mono fun _ _ ⟨he, hx⟩ => ⟨_, _, he, h.to hx, hx, fun q hq => .inl (Option.some.inj hq).symm⟩
  have hd' : p.done = false := by simpa using hd
  by_cases ht : p.took = 1099511627776
  · have e : stp ws p = (ws, p) := by unfold stp; rw [if_pos (.inr ht)]
    rw [e]
    exact (ref_full (some ad) 64 c A d p w hd' ht).mono fun _ _ ⟨he, hx⟩ => ⟨_, _, he, h.to hx, hx, fun q hq => .inl (Option.some.inj hq).symm⟩
  rw [stp_on (by intro h'; rcases h' with h' | h'; exact hd h'; exact ht h')]
  obtain ⟨i, hi, hl, hget, hok⟩ := ins_of hm
  obtain ⟨⟨hl0, hl64⟩, ⟨ha0, ha1⟩, ⟨ht0, ht1⟩, _⟩ := hm
  obtain ⟨pd, rfl⟩ := hp.some_ hl0 (by omega)
  generalize p.ins = x at *
  obtain ⟨prog, at_, rs, done, took⟩ := p
  dsimp only at *
  subst hi hd'
  have ht' : took < 1099511627776 := by omega
  clear ht hd ht1
  have hok' := hok
  obtain ⟨⟨hk1, hk8⟩, ⟨hr0, hr3⟩, ⟨hi0, hi63⟩, h6, h7⟩ := hok
  obtain ⟨r, hr⟩ := Int.eq_ofNat_of_zero_le hr0
  obtain ⟨j, hi⟩ := Int.eq_ofNat_of_zero_le hi0
  have hj : j < 64 := by omega
  have er : x.r.toNat = r := by omega
  have ej : x.i.toNat = j := by omega
  have hn := next_range (rs := rs) hok' hl
  rw [er]
  have close (rs' : Nat → Int) (nx : Int) (ws' : List Int) (fin : Bool) (hf : (nx == (prog.length : Int)) = fin) (hrs : rs' = upd rs r (regOf x rs ws)) (hnx : nx = nextOf x rs i prog.length) (hws : ws' = wordsOf x rs ws)
      (H : Calls Try.prog 17 #[.slice (some ad) 64 c, .agg #[.slice (some pd) prog.length d, .int .i64 i, .int .u64 (rs 0), .int .u64 (rs 1), .int .u64 (rs 2), .int .u64 (rs 3), .bool false, .int .i64 took]] w fun e w' => ∃ A' c',
        e = .returned (.agg #[.slice A' 64 c', .slice (some pd) prog.length d, .int .i64 (bif fin then (i : Int) else nx), .int .u64 (rs' 0), .int .u64 (rs' 1), .int .u64 (rs' 2), .int .u64 (rs' 3), .bool fin, .int .i64 (took + 1)]) ∧ Rd w' 1 A' 64 (Us ws') ∧ Ext w w' ∧ ∀ q, A' = some q → q = ad ∨ w.heap.size ≤ q.block) :
      Calls Try.prog 17 #[.slice (some ad) 64 c, .agg #[.slice (some pd) prog.length d, .int .i64 i, .int .u64 (rs 0), .int .u64 (rs 1), .int .u64 (rs 2), .int .u64 (rs 3), .bool false, .int .i64 took]] w fun e w' => ∃ A' c',
        e = .returned (.agg #[.slice A' 64 c', .slice (some pd) ((Pc.on ⟨prog, i, rs, false, took⟩ (upd rs r (regOf x rs ws)) (nextOf x rs i prog.length))).prog.length d, .int .i64 ((Pc.on ⟨prog, i, rs, false, took⟩ (upd rs r (regOf x rs ws)) (nextOf x rs i prog.length))).at_, .int .u64 (((Pc.on ⟨prog, i, rs, false, took⟩ (upd rs r (regOf x rs ws)) (nextOf x rs i prog.length))).rs 0), .int .u64 (((Pc.on ⟨prog, i, rs, false, took⟩ (upd rs r (regOf x rs ws)) (nextOf x rs i prog.length))).rs 1), .int .u64 (((Pc.on ⟨prog, i, rs, false, took⟩ (upd rs r (regOf x rs ws)) (nextOf x rs i prog.length))).rs 2), .int .u64 (((Pc.on ⟨prog, i, rs, false, took⟩ (upd rs r (regOf x rs ws)) (nextOf x rs i prog.length))).rs 3), .bool ((Pc.on ⟨prog, i, rs, false, took⟩ (upd rs r (regOf x rs ws)) (nextOf x rs i prog.length))).done, .int .i64 ((Pc.on ⟨prog, i, rs, false, took⟩ (upd rs r (regOf x rs ws)) (nextOf x rs i prog.length))).took]) ∧ Rd w' 1 A' 64 (Us (wordsOf x rs ws)) ∧ Ext w w' ∧ ∀ q, A' = some q → q = ad ∨ w.heap.size ≤ q.block := by
    subst hrs hws
    rw [← hnx]
    refine H.mono ?_
    rintro e w' ⟨A', c', rfl, h1, h2⟩
    refine ⟨A', c', ?_, h1, h2⟩
    subst hf
    by_cases hf : nx = (prog.length : Int)
    · simp [Pc.on, hf]
    · simp [Pc.on, hf, show (nx == (prog.length : Int)) = false by simpa using hf]
  rcases (by omega : x.k = 1 ∨ x.k = 2 ∨ x.k = 3 ∨ x.k = 4 ∨ x.k = 5 ∨ x.k = 6 ∨ x.k = 7 ∨ x.k = 8) with hk | hk | hk | hk | hk | hk | hk | hk
  · refine close (upd rs r (ith ws j)) ((i : Int) + 1) ws _ rfl (by simp [regOf, hk, ej]) (by simp [nextOf, hk]) (by simp [wordsOf, hk]) ?_
    rcases (by omega : r = 0 ∨ r = 1 ∨ r = 2 ∨ r = 3) with rfl | rfl | rfl | rfl
    · exact ref1_0 ad c ws pd d prog i rs took x w h hp hget hl hl64 ht0 ht' j hj hi hk hr _ rfl
    · exact ref1_1 ad c ws pd d prog i rs took x w h hp hget hl hl64 ht0 ht' j hj hi hk hr _ rfl
    · exact ref1_2 ad c ws pd d prog i rs took x w h hp hget hl hl64 ht0 ht' j hj hi hk hr _ rfl
    · exact ref1_3 ad c ws pd d prog i rs took x w h hp hget hl hl64 ht0 ht' j hj hi hk hr _ rfl
  · refine close rs ((i : Int) + 1) (ws.set j (rs r)) _ rfl (by rw [show regOf x rs ws = rs r by simp [regOf, hk, er], upd_self]) (by simp [nextOf, hk]) (by simp [wordsOf, hk, er, ej]) ?_
    rcases (by omega : r = 0 ∨ r = 1 ∨ r = 2 ∨ r = 3) with rfl | rfl | rfl | rfl
    · exact ref2_0 ad c ws pd d prog i rs took x w h hp hget hl hl64 ht0 ht' j hj hi hk hr _ rfl
    · exact ref2_1 ad c ws pd d prog i rs took x w h hp hget hl hl64 ht0 ht' j hj hi hk hr _ rfl
    · exact ref2_2 ad c ws pd d prog i rs took x w h hp hget hl hl64 ht0 ht' j hj hi hk hr _ rfl
    · exact ref2_3 ad c ws pd d prog i rs took x w h hp hget hl hl64 ht0 ht' j hj hi hk hr _ rfl
  · by_cases ho : ith ws j = x.a
    · refine close (upd rs r 1) ((i : Int) + 1) (ws.set j (rs r)) _ rfl (by simp [regOf, hk, ej, ho]) (by simp [nextOf, hk]) (by simp [wordsOf, hk, er, ej, ho]) ?_
      rcases (by omega : r = 0 ∨ r = 1 ∨ r = 2 ∨ r = 3) with rfl | rfl | rfl | rfl
      · exact ref3_0 ad c ws pd d prog i rs took x w h hp hget hl hl64 ht0 ht' j hj hi hk ho hr _ rfl
      · exact ref3_1 ad c ws pd d prog i rs took x w h hp hget hl hl64 ht0 ht' j hj hi hk ho hr _ rfl
      · exact ref3_2 ad c ws pd d prog i rs took x w h hp hget hl hl64 ht0 ht' j hj hi hk ho hr _ rfl
      · exact ref3_3 ad c ws pd d prog i rs took x w h hp hget hl hl64 ht0 ht' j hj hi hk ho hr _ rfl
    · refine close (upd rs r 0) ((i : Int) + 1) ws _ rfl (by simp [regOf, hk, ej, ho]) (by simp [nextOf, hk]) (by simp [wordsOf, hk, ej, ho]) ?_
      rcases (by omega : r = 0 ∨ r = 1 ∨ r = 2 ∨ r = 3) with rfl | rfl | rfl | rfl
      · exact ref3n_0 ad c ws pd d prog i rs took x w h hp hget hl hl64 ht0 ht' j hj hi hk (by simpa using ho) hr _ rfl
      · exact ref3n_1 ad c ws pd d prog i rs took x w h hp hget hl hl64 ht0 ht' j hj hi hk (by simpa using ho) hr _ rfl
      · exact ref3n_2 ad c ws pd d prog i rs took x w h hp hget hl hl64 ht0 ht' j hj hi hk (by simpa using ho) hr _ rfl
      · exact ref3n_3 ad c ws pd d prog i rs took x w h hp hget hl hl64 ht0 ht' j hj hi hk (by simpa using ho) hr _ rfl
  · refine close (upd rs r (ith ws j)) ((i : Int) + 1) (ws.set j (IntKind.u64.wrap (ith ws j + x.a))) _ rfl (by simp [regOf, hk, ej]) (by simp [nextOf, hk]) (by simp [wordsOf, hk, ej]) ?_
    rcases (by omega : r = 0 ∨ r = 1 ∨ r = 2 ∨ r = 3) with rfl | rfl | rfl | rfl
    · exact ref4_0 ad c ws pd d prog i rs took x w h hp hget hl hl64 ht0 ht' j hj hi hk hr _ rfl
    · exact ref4_1 ad c ws pd d prog i rs took x w h hp hget hl hl64 ht0 ht' j hj hi hk hr _ rfl
    · exact ref4_2 ad c ws pd d prog i rs took x w h hp hget hl hl64 ht0 ht' j hj hi hk hr _ rfl
    · exact ref4_3 ad c ws pd d prog i rs took x w h hp hget hl hl64 ht0 ht' j hj hi hk hr _ rfl
  · refine close (upd rs r x.a) ((i : Int) + 1) ws _ rfl (by simp [regOf, hk]) (by simp [nextOf, hk]) (by simp [wordsOf, hk]) ?_
    rcases (by omega : r = 0 ∨ r = 1 ∨ r = 2 ∨ r = 3) with rfl | rfl | rfl | rfl
    · exact ref5_0 ad c ws pd d prog i rs took x w h hp hget hl hl64 ht0 ht' j hj hi hk hr _ rfl
    · exact ref5_1 ad c ws pd d prog i rs took x w h hp hget hl hl64 ht0 ht' j hj hi hk hr _ rfl
    · exact ref5_2 ad c ws pd d prog i rs took x w h hp hget hl hl64 ht0 ht' j hj hi hk hr _ rfl
    · exact ref5_3 ad c ws pd d prog i rs took x w h hp hget hl hl64 ht0 ht' j hj hi hk hr _ rfl
  · obtain ⟨hb0, hb3⟩ := h6 hk
    obtain ⟨b, hb⟩ := Int.eq_ofNat_of_zero_le hb0
    have eb : x.b.toNat = b := by omega
    refine close (upd rs r (IntKind.u64.wrap (rs r + rs b))) ((i : Int) + 1) ws _ rfl (by simp [regOf, hk, er, eb]) (by simp [nextOf, hk]) (by simp [wordsOf, hk]) ?_
    rcases (by omega : r = 0 ∨ r = 1 ∨ r = 2 ∨ r = 3) with rfl | rfl | rfl | rfl <;> rcases (by omega : b = 0 ∨ b = 1 ∨ b = 2 ∨ b = 3) with rfl | rfl | rfl | rfl
    · exact ref6_0_0 ad c ws pd d prog i rs took x w h hp hget hl hl64 ht0 ht' j hj hi hk hr hb _ rfl
    · exact ref6_0_1 ad c ws pd d prog i rs took x w h hp hget hl hl64 ht0 ht' j hj hi hk hr hb _ rfl
    · exact ref6_0_2 ad c ws pd d prog i rs took x w h hp hget hl hl64 ht0 ht' j hj hi hk hr hb _ rfl
    · exact ref6_0_3 ad c ws pd d prog i rs took x w h hp hget hl hl64 ht0 ht' j hj hi hk hr hb _ rfl
    · exact ref6_1_0 ad c ws pd d prog i rs took x w h hp hget hl hl64 ht0 ht' j hj hi hk hr hb _ rfl
    · exact ref6_1_1 ad c ws pd d prog i rs took x w h hp hget hl hl64 ht0 ht' j hj hi hk hr hb _ rfl
    · exact ref6_1_2 ad c ws pd d prog i rs took x w h hp hget hl hl64 ht0 ht' j hj hi hk hr hb _ rfl
    · exact ref6_1_3 ad c ws pd d prog i rs took x w h hp hget hl hl64 ht0 ht' j hj hi hk hr hb _ rfl
    · exact ref6_2_0 ad c ws pd d prog i rs took x w h hp hget hl hl64 ht0 ht' j hj hi hk hr hb _ rfl
    · exact ref6_2_1 ad c ws pd d prog i rs took x w h hp hget hl hl64 ht0 ht' j hj hi hk hr hb _ rfl
    · exact ref6_2_2 ad c ws pd d prog i rs took x w h hp hget hl hl64 ht0 ht' j hj hi hk hr hb _ rfl
    · exact ref6_2_3 ad c ws pd d prog i rs took x w h hp hget hl hl64 ht0 ht' j hj hi hk hr hb _ rfl
    · exact ref6_3_0 ad c ws pd d prog i rs took x w h hp hget hl hl64 ht0 ht' j hj hi hk hr hb _ rfl
    · exact ref6_3_1 ad c ws pd d prog i rs took x w h hp hget hl hl64 ht0 ht' j hj hi hk hr hb _ rfl
    · exact ref6_3_2 ad c ws pd d prog i rs took x w h hp hget hl hl64 ht0 ht' j hj hi hk hr hb _ rfl
    · exact ref6_3_3 ad c ws pd d prog i rs took x w h hp hget hl hl64 ht0 ht' j hj hi hk hr hb _ rfl
  · obtain ⟨hb0, hb3⟩ := h7 hk
    obtain ⟨b, hb⟩ := Int.eq_ofNat_of_zero_le hb0
    have hreg : regOf x rs ws = rs r := by simp [regOf, hk, er]
    by_cases hz : rs r = 0
    · refine close rs (b : Int) ws _ rfl (by rw [hreg, upd_self]) (by simp [nextOf, hk, er, hz, hb]) (by simp [wordsOf, hk]) ?_
      rcases (by omega : r = 0 ∨ r = 1 ∨ r = 2 ∨ r = 3) with rfl | rfl | rfl | rfl
      · exact ref7_0 ad c ws pd d prog i rs took x w h hp hget hl hl64 ht0 ht' j hj hi hk hz b hb hr _ rfl
      · exact ref7_1 ad c ws pd d prog i rs took x w h hp hget hl hl64 ht0 ht' j hj hi hk hz b hb hr _ rfl
      · exact ref7_2 ad c ws pd d prog i rs took x w h hp hget hl hl64 ht0 ht' j hj hi hk hz b hb hr _ rfl
      · exact ref7_3 ad c ws pd d prog i rs took x w h hp hget hl hl64 ht0 ht' j hj hi hk hz b hb hr _ rfl
    · refine close rs ((i : Int) + 1) ws _ rfl (by rw [hreg, upd_self]) (by simp [nextOf, hk, er, hz]) (by simp [wordsOf, hk]) ?_
      rcases (by omega : r = 0 ∨ r = 1 ∨ r = 2 ∨ r = 3) with rfl | rfl | rfl | rfl
      · exact ref7n_0 ad c ws pd d prog i rs took x w h hp hget hl hl64 ht0 ht' j hj hi hk (by simpa using hz) hr _ rfl
      · exact ref7n_1 ad c ws pd d prog i rs took x w h hp hget hl hl64 ht0 ht' j hj hi hk (by simpa using hz) hr _ rfl
      · exact ref7n_2 ad c ws pd d prog i rs took x w h hp hget hl hl64 ht0 ht' j hj hi hk (by simpa using hz) hr _ rfl
      · exact ref7n_3 ad c ws pd d prog i rs took x w h hp hget hl hl64 ht0 ht' j hj hi hk (by simpa using hz) hr _ rfl
  · refine close rs (prog.length : Int) ws true (by simp) (by rw [show regOf x rs ws = rs r by simp [regOf, hk, er], upd_self]) (by simp [nextOf, hk]) (by simp [wordsOf, hk]) ?_
    rcases (by omega : r = 0 ∨ r = 1 ∨ r = 2 ∨ r = 3) with rfl | rfl | rfl | rfl
    · exact ref8_0 ad c ws pd d prog i rs took x w h hp hget hl hl64 ht0 ht' j hj hi hk hr
    · exact ref8_1 ad c ws pd d prog i rs took x w h hp hget hl hl64 ht0 ht' j hj hi hk hr
    · exact ref8_2 ad c ws pd d prog i rs took x w h hp hget hl hl64 ht0 ht' j hj hi hk hr
    · exact ref8_3 ad c ws pd d prog i rs took x w h hp hget hl hl64 ht0 ht' j hj hi hk hr

end Go.Proofs.Yteiabmbfjfaboaa
