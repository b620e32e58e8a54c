/-
  Contracts: Del, Split and Join of package treap refuse what may not be.
-/
import Derived.Test.YtjiehlhnocgneaaTrPut
set_option linter.unusedVariables false
set_option linter.unusedSimpArgs false
namespace Go.Proofs.Ytjiehlhnocgneaa
open Go.RowKit

theorem results_ar4 {fn : Func} {p u v x : Tmp} (h : fn.results = #[.cell p 25, .tmp u, .tmp v, .tmp x]) (tmps : Array Value) (w : World) (b : Nat) (cs : Array Value) (hp : tmps.getD p undef = .pointer (some ⟨b, 0, none⟩)) (hB : Bx w b cs) (hc : cs.size = 2) :
    (results fn tmps).run Try.prog w = .ok (.tuple #[.agg cs, tmps.getD u undef, tmps.getD v undef, tmps.getD x undef]) w := by
  have hp' : tmps[p]?.getD undef = .pointer (some ⟨b, 0, none⟩) := by simpa using hp
  simp [results, h, hp', asAddr, loadAr hB hc]

set_option maxHeartbeats 2000000 in
theorem trDel_arg (A B : Option Addr) (n m c d : Nat) (ns : List Nd) (fs : List Int) (r key : Int) (w : World) (h : Ar w A n B m ns fs) (hn : n ≤ 1000) (hm : m ≤ 1000) (hU : U r) (hno : ¬ (ArMay ns fs ∧ MapAt ns r)) :
    Calls Try.prog 16 #[.agg #[.slice A n c, .slice B m d], .int .u64 r, .int .i64 key] w (ErrA 1 w) := by
  obtain ⟨w1, hw1⟩ : ∃ w1, w1 = w.alloc (.cells #[.slice A n c, .slice B m d] 25) := ⟨_, rfl⟩
  obtain ⟨w4, hw4⟩ : ∃ w4, w4 = w1.alloc (.cells #[.slice none 0 0, .slice none 0 0] 25) := ⟨_, rfl⟩
  obtain ⟨B1, hx1, hs1⟩ := box_made hw1
  obtain ⟨B4, hx4, hs4⟩ := box_made hw4
  rw [hs1] at B4
  have HB4 := Lib.hid B4
  have X4 := Lib.hid (hx1.step hx4)
  have H1 := Lib.hid hw1
  have H4 := Lib.hid hw4
  have HA := Lib.hid (h.to X4.out)
  have k0 : w4.cell? ⟨w.heap.size, 0, none⟩ = some (.slice A n c) := (B1.to hx4).cell 0
  have k1 : w4.cell? ⟨w.heap.size, 1, none⟩ = some (.slice B m d) := (B1.to hx4).cell 1
  have hge := Lib.hid (show w.heap.size ≤ w.heap.size + 1 by omega)
  have HR := Lib.hid (trRight_is A B n m c d ns fs r w4 HA.out hn hm hU false (by simp [hno]))
  clear hw1 hw4 B1 B4 hx1 hx4 hs1 hs4 h hno
  go_enter Try.func16, Try.ntmps16
  go_wp2_with fail
  rw [← H1.out, ← H4.out]
  go_wp2_with fail
  refine HR.out.mono ?_; rintro e w5 ⟨rfl, hx5⟩
  have b4 := Lib.hid (HB4.out.to hx5)
  have X5 := Lib.hid (X4.out.step hx5)
  have f0 := b4.out.free 0
  have f1 := b4.out.free 1
  have g0 := b4.out.cell 0
  have g1 := b4.out.cell 1
  simp only [List.getElem?_toArray, List.getElem?_cons_zero, List.getElem?_cons_succ] at g0 g1
  clear hx5
  go_wp2_with fail
  refine bodyPost_ret (results_ar3 rfl _ _ (w.heap.size + 1) #[.slice none 0 0, .slice none 0 0] (by rfl) (b4.out.two _ _) rfl) rfl ⟨rfl, (Only.two _ _ _ _).new X5.out hge.out⟩

/-- What Split does, where it fails. -/
def ErrS (k : Int) (w : World) (e : Ending) (w' : World) : Prop := e = .returned (.tuple #[.agg #[.slice none 0 0, .slice none 0 0], .int .u64 0, .int .u64 0, .int .i64 k]) ∧ Ext w w'

set_option maxHeartbeats 2000000 in
theorem trSplit_arg (A B : Option Addr) (n m c d : Nat) (ns : List Nd) (fs : List Int) (r key : Int) (w : World) (h : Ar w A n B m ns fs) (hn : n ≤ 1000) (hm : m ≤ 1000) (hU : U r) (hno : ¬ (ArMay ns fs ∧ MapAt ns r)) :
    Calls Try.prog 17 #[.agg #[.slice A n c, .slice B m d], .int .u64 r, .int .i64 key] w (ErrS 1 w) := by
  obtain ⟨w1, hw1⟩ : ∃ w1, w1 = w.alloc (.cells #[.slice A n c, .slice B m d] 25) := ⟨_, rfl⟩
  obtain ⟨w4, hw4⟩ : ∃ w4, w4 = w1.alloc (.cells #[.slice none 0 0, .slice none 0 0] 25) := ⟨_, rfl⟩
  obtain ⟨B1, hx1, hs1⟩ := box_made hw1
  obtain ⟨B4, hx4, hs4⟩ := box_made hw4
  rw [hs1] at B4
  have HB4 := Lib.hid B4
  have X4 := Lib.hid (hx1.step hx4)
  have H1 := Lib.hid hw1
  have H4 := Lib.hid hw4
  have HA := Lib.hid (h.to X4.out)
  have k0 : w4.cell? ⟨w.heap.size, 0, none⟩ = some (.slice A n c) := (B1.to hx4).cell 0
  have k1 : w4.cell? ⟨w.heap.size, 1, none⟩ = some (.slice B m d) := (B1.to hx4).cell 1
  have hge := Lib.hid (show w.heap.size ≤ w.heap.size + 1 by omega)
  have HR := Lib.hid (trRight_is A B n m c d ns fs r w4 HA.out hn hm hU false (by simp [hno]))
  clear hw1 hw4 B1 B4 hx1 hx4 hs1 hs4 h hno
  go_enter Try.func17, Try.ntmps17
  go_wp2_with fail
  rw [← H1.out, ← H4.out]
  go_wp2_with fail
  refine HR.out.mono ?_; rintro e w5 ⟨rfl, hx5⟩
  have b4 := Lib.hid (HB4.out.to hx5)
  have X5 := Lib.hid (X4.out.step hx5)
  have f0 := b4.out.free 0
  have f1 := b4.out.free 1
  have g0 := b4.out.cell 0
  have g1 := b4.out.cell 1
  simp only [List.getElem?_toArray, List.getElem?_cons_zero, List.getElem?_cons_succ] at g0 g1
  clear hx5
  go_wp2_with fail
  refine bodyPost_ret (results_ar4 rfl _ _ (w.heap.size + 1) #[.slice none 0 0, .slice none 0 0] (by rfl) (b4.out.two _ _) rfl) rfl ⟨rfl, (Only.two _ _ _ _).new X5.out hge.out⟩

set_option maxHeartbeats 2000000 in
theorem trJoin_arg (A B : Option Addr) (n m c d : Nat) (ns : List Nd) (fs : List Int) (r r2 : Int) (w : World) (h : Ar w A n B m ns fs) (hn : n ≤ 1000) (hm : m ≤ 1000) (hU : U r) (hno : ¬ (ArMay ns fs ∧ MapAt ns r)) :
    Calls Try.prog 24 #[.agg #[.slice A n c, .slice B m d], .int .u64 r, .int .u64 r2] w (ErrA 1 w) := by
  obtain ⟨w1, hw1⟩ : ∃ w1, w1 = w.alloc (.cells #[.slice A n c, .slice B m d] 25) := ⟨_, rfl⟩
  obtain ⟨w4, hw4⟩ : ∃ w4, w4 = w1.alloc (.cells #[.slice none 0 0, .slice none 0 0] 25) := ⟨_, rfl⟩
  obtain ⟨B1, hx1, hs1⟩ := box_made hw1
  obtain ⟨B4, hx4, hs4⟩ := box_made hw4
  rw [hs1] at B4
  have HB4 := Lib.hid B4
  have X4 := Lib.hid (hx1.step hx4)
  have H1 := Lib.hid hw1
  have H4 := Lib.hid hw4
  have HA := Lib.hid (h.to X4.out)
  have k0 : w4.cell? ⟨w.heap.size, 0, none⟩ = some (.slice A n c) := (B1.to hx4).cell 0
  have k1 : w4.cell? ⟨w.heap.size, 1, none⟩ = some (.slice B m d) := (B1.to hx4).cell 1
  have hge := Lib.hid (show w.heap.size ≤ w.heap.size + 1 by omega)
  have HR := Lib.hid (trRight_is A B n m c d ns fs r w4 HA.out hn hm hU false (by simp [hno]))
  clear hw1 hw4 B1 B4 hx1 hx4 hs1 hs4 h hno
  go_enter Try.func24, Try.ntmps24
  go_wp2_with fail
  rw [← H1.out, ← H4.out]
  go_wp2_with fail
  refine HR.out.mono ?_; rintro e w5 ⟨rfl, hx5⟩
  have b4 := Lib.hid (HB4.out.to hx5)
  have X5 := Lib.hid (X4.out.step hx5)
  have f0 := b4.out.free 0
  have f1 := b4.out.free 1
  have g0 := b4.out.cell 0
  have g1 := b4.out.cell 1
  simp only [List.getElem?_toArray, List.getElem?_cons_zero, List.getElem?_cons_succ] at g0 g1
  clear hx5
  go_wp2_with fail
  refine bodyPost_ret (results_ar3 rfl _ _ (w.heap.size + 1) #[.slice none 0 0, .slice none 0 0] (by rfl) (b4.out.two _ _) rfl) rfl ⟨rfl, (Only.two _ _ _ _).new X5.out hge.out⟩

end Go.Proofs.Ytjiehlhnocgneaa
