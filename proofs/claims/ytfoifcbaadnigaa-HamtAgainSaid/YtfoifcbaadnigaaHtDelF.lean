/-
  Contracts: DeleteFunc over a row of one reference at most; with's closure.
-/
import Derived.Test.YtfoifcbaadnigaaHtTable
import Derived.Lib.SliceRun
set_option linter.unusedVariables false
set_option linter.unusedSimpArgs false
namespace Go.Proofs.Ytfoifcbaadnigaa
open Go.RowKit

theorem own_cut {w : World} {base : Nat} {e : TypeId} {A : Option Addr} {n c : Nat} {xs : List Value} (h : w.ownsRow base e 1 (.slice A n c) n xs) : w.ownsRow base e 1 (.slice A 0 c) 0 (Us []) := by
  refine ⟨rfl, ?_⟩
  rcases h.2 with ⟨e1, _⟩ | ⟨g, cap, cur, e1, h1, h2, h3, h4, h5, h6⟩
  · injection e1 with e1 e2 e3
    subst e1
    subst e3
    exact .inl ⟨rfl, rfl⟩
  · injection e1 with e1 e2 e3
    subst e1
    subst e3
    exact .inr ⟨g, c, cur, rfl, h1, h2, Nat.zero_le _, h4, h5, by simp [Us]⟩
/-- What is left: a row of the call's own still. -/
def DelA (base : Nat) (zs : List Int) (p : Int → Bool) (w : World) (e : Ending) (w' : World) : Prop :=
  ∃ A n c, e = .returned (.slice A n c) ∧ w'.ownsRow base 31 1 (.slice A n c) n (Us (zs.filter (fun z => !p z))) ∧ ∀ w0, Ext w0 w → w0.heap.size ≤ base → Ext w0 w'

set_option maxHeartbeats 2000000 in
set_option maxRecDepth 100000 in
theorem htDel1_is (g : FuncId) (eg : ∀ args w, (callFunc g args).run Try.prog w = .ok (.enter g args) w) (u v : Value) (base : Nat) (S : Option Addr) (n c : Nat) (zs : List Int) (p : Int → Bool) (w : World) (h : w.ownsRow base 31 1 (.slice S n c) n (Us zs)) (hn : zs.length ≤ 1) (hc : Tells g u v p zs w) :
    Calls Try.prog 45 #[.slice S n c, .func (.func g) #[] #[u, v]] w (DelA base zs p w) := by
  have hr := Rd.own h
  have hzn := hr.u64len
  have HI := Lib.hid (htIndex_is g eg u v S n c zs p w hr (by omega) hc)
  by_cases hp : ∃ z, zs = [z] ∧ p z = true
  · obtain ⟨z, rfl, hpz⟩ := hp
    simp at hzn
    subst hzn
    rcases h.2 with ⟨_, h0⟩ | ⟨b, cap, cur, e1, h1, h2, h3, h4, h5, h6⟩
    · cases h0
    injection e1 with e1 e2 e3
    subst e1
    subst e3
    have k0 : w.cell? ⟨b, 0, none⟩ = some (.int .u64 z) := by have := hr.u64 (j := 0) (by omega); simpa [Addr.add, ith] using this
    have hcap : ¬ c = 0 := by omega
    have hcap1 : ¬ c < 1 := by omega
    have HP := Lib.hid (show ∀ j : Int, ((j = -1 ∧ ∀ i, i < [z].length → p (ith [z] i) = false) ∨ (∃ k : Nat, k < [z].length ∧ j = k ∧ p (ith [z] k) = true ∧ ∀ i, i < k → p (ith [z] i) = false)) → j = 0 from fun j hj => by
      rcases hj with ⟨_, hj⟩ | ⟨k, hk, rfl, _⟩
      · have := hj 0 (by simp)
        simp [ith] at this
        rw [hpz] at this
        cases this
      · simp at hk; rw [hk]; rfl)
    have HIE := Lib.hid (show Calls Try.prog 57 #[.slice (some ⟨b, 0, none⟩) 1 c, .func (.func g) #[] #[u, v]] w (fun e w' => e = .returned (.int .i64 0) ∧ Ext w w') from HI.out.mono fun e w' ⟨⟨j, hj, hq⟩, hx⟩ => ⟨by rw [hj, HP.out j hq], hx⟩)
    have HFR := Lib.hid (show w.frozen? ⟨b, 0, none⟩ = false by simp [World.frozen?, h2])
    have HBL := Lib.hid (show b < w.heap.size from (Array.getElem?_eq_some_iff.1 h2).1)
    have HFIN := Lib.hid (show ∀ w2, Ext w w2 → DelA base [z] p w (.returned (.slice (some ⟨b, 0, none⟩) 0 c)) (w2.setCell ⟨b, 0, none⟩ (.int .u64 0)) from fun w2 hx => by
      have h7 := World.ownsRow.stored (own_ext h hx) 0 (.int .u64 0)
      refine ⟨_, 0, c, rfl, ?_, fun w0 h0 hb => Ext.set (h0.step hx) _ (by omega)⟩
      have e0 : [z].filter (fun z => !p z) = [] := by simp [hpz]
      rw [e0]
      exact own_cut h7.1)
    clear h hr HI hc hpz h1 h2 h3 h4 h5 h6 HP
    go_enter Try.func45, Try.ntmps45
    go_wp2_with (go_at_call 57; refine HIE.out.mono ?_; rintro e w2 ⟨rfl, hx2⟩; have k2 := hx2.cellOf k0; have f2 : w2.frozen? ⟨b, 0, none⟩ = false := hx2.thaw HBL.out HFR.out)
    go_loopw [5, 6, 7] (fun i j _ wr => i = .int .i64 0 ∧ j = .int .i64 1 ∧ Hid (Ext w wr)) (fun _ _ _ _ => 0)
    case atStart => exact ⟨rfl, rfl, Lib.hid hx2⟩
    case round =>
      obtain ⟨rfl, rfl, hx⟩ := hrel
      rename World => w5
      have k5 := hx.out.cellOf k0
      have f5 : w5.frozen? ⟨b, 0, none⟩ = false := hx.out.thaw HBL.out HFR.out
      have hclear : (Builtin.clear_ #[78] 0 #[.slice (some ⟨b, 0, none⟩) 1 c]).run Try.prog w5 = .ok (.tuple #[]) (w5.setCell ⟨b, 0, none⟩ (.int .u64 0)) := by
        exact Lib.run_clear_slice (P := Try.prog) w5 78 31 0 (.int .u64 0) Try.underlying78 (fun w => by kernel_rfl) rfl rfl b 0 1 c (by omega) (fun j hj => by
          obtain rfl : j = 0 := by omega
          simp [k5]) (fun j hj => by
          obtain rfl : j = 0 := by omega
          simpa using f5)
      clear k2 f2
      go_wp2_with fail
      go_ret
      exact HFIN.out _ hx.out
  · have hall : ∀ i, i < zs.length → p (ith zs i) = false := fun i hi => by
      have h0 : i = 0 := by omega
      subst h0
      cases hq : p (ith zs 0) with
      | false => rfl
      | true =>
        exfalso
        match zs, hn, hi, hq, hp with
        | [z], _, _, hq, hp => exact hp ⟨z, rfl, by simpa [ith] using hq⟩
    have HIE := Lib.hid (show Calls Try.prog 57 #[.slice S n c, .func (.func g) #[] #[u, v]] w (fun e w' => e = .returned (.int .i64 (-1)) ∧ Ext w w') from HI.out.mono fun e w' ⟨⟨j, hj, hq⟩, hx⟩ => by
      rcases hq with ⟨rfl, _⟩ | ⟨k, hk, _, hp1, _⟩
      · exact ⟨hj, hx⟩
      · rw [hall k hk] at hp1; cases hp1)
    have HF := Lib.hid (show ∀ w2, Ext w w2 → DelA base zs p w (.returned (.slice S n c)) w2 from fun w2 hx => by
      refine ⟨S, n, c, rfl, ?_, fun w0 h0 _ => h0.step hx⟩
      have : zs.filter (fun z => !p z) = zs := List.filter_eq_self.2 fun z hz => by
        obtain ⟨i, hi⟩ := List.getElem?_of_mem hz
        have hil := (List.getElem?_eq_some_iff.1 hi).1
        rw [ith_of zs hil] at hi
        injection hi with hi
        rw [← hi, hall i hil]
        rfl
      rw [this]
      exact own_ext h hx)
    clear h hr HI hc hall hp
    go_enter Try.func45, Try.ntmps45
    go_wp2_with (go_at_call 57; refine HIE.out.mono ?_; rintro e w2 ⟨rfl, hx2⟩)
    go_ret
    exact HF.out _ hx2

set_option maxHeartbeats 1000000 in
theorem htWith1_is (A B : Option Addr) (n c m d : Nat) (ns : List Nd) (key z err : Int) (b bm bk : Nat) (w : World) (hb : Bx w b #[.slice A n c, .slice B m d, .int .i64 err]) (hM : Bx w bm #[.pointer (some ⟨b, 0, none⟩)]) (hK : Bx w bk #[.int .i64 key]) (h : Rd w 16 A n (flat Nd.cells ns)) (hU : U z) :
    Calls Try.prog 46 #[.int .u64 z, .pointer (some ⟨bm, 0, none⟩), .pointer (some ⟨bk, 0, none⟩)] w fun e w' => e = .returned (.bool ((nodeF ns z).n == key)) ∧ Ext w w' := by
  have HN := Lib.hid (fun W (hW : Ext w W) => htKey_is A B n c m d ns z W hU.1 hU.2 (h.to hW))
  generalize (nodeF ns z).n = k at HN ⊢
  have s0 := fun q : Later w => (hb.to q.ext).cell 0
  have s1 := fun q : Later w => (hb.to q.ext).cell 1
  have s2 := fun q : Later w => (hM.to q.ext).cell 0
  have s3 := fun q : Later w => (hK.to q.ext).cell 0
  simp only [List.getElem?_toArray, List.getElem?_cons_zero, List.getElem?_cons_succ] at s0 s1 s2 s3
  clear hb hM hK h
  go_enter Try.func46, Try.ntmps46
  go_wp2_with fail
  refine wp_region_later w (Ext.refl _) (by kernel_rfl) (by kernel_rfl) ?_
  repeat (go_big_quiet_step (first | (go_at_call 40; exact later_call (fun W hW => HN.out W hW))))
  refine wpQuiet_nil ?_
  rintro _ ⟨q, rfl⟩
  go_wp2_with fail
  go_ret
  exact ⟨rfl, q.ext⟩

end Go.Proofs.Ytfoifcbaadnigaa
