/-
  The walk of WordCalls: each call of package word answers what the document says.
-/
import Derived.Test.YtfjmocnkhaomiaaLaw5
namespace Go.Proofs.Ytfjmocnkhaomiaa
open Go.RowKit

/-- A block of its own, known whole. -/
def Box (W : World) (b : Nat) (cs : Array Value) : Prop := b < W.heap.size ∧ ∀ j, W.cell? ⟨b, j, none⟩ = cs[j]?
theorem Box.new (W : World) (cs : Array Value) (t : TypeId) : Box (W.alloc (.cells cs t)) W.heap.size cs := ⟨by simp, cell_new W cs t⟩
theorem Box.to {W W' : World} {b : Nat} {cs : Array Value} (h : Box W b cs) (hx : Ext W W') : Box W' b cs :=
  ⟨Nat.lt_of_lt_of_le h.1 hx.size, fun j => (hx.cell (p := ⟨b, j, none⟩) h.1).trans (h.2 j)⟩

/-- A call that answers a slice that shows some words, and more beside it, in every world that goes on from w0. -/
def Gives (f : Nat) (args : Array Value) (w0 : World) (mk : Value → Value) (n : Nat) (ws : List Int) : Prop :=
  ∀ W, Ext w0 W → Calls Try.prog f args W fun e W' => ∃ A' c', e = .returned (mk (.slice A' n c')) ∧ Rd W' 1 A' n (Us ws) ∧ Ext W W'

set_option maxRecDepth 100000 in
set_option maxHeartbeats 2000000 in
theorem calls_all (A : Option Addr) (n c m : Nat) (k at' a b : Int) (w : World) (hn : n ≤ c) (hm : Hid (min n 66 = m))
    (lv le se ce aw ae dx de cv : Int) (is : Bool) (n1 n2 n3 n4 n5 : Nat) (ws1 ws2 ws3 ws4 ws5 : List Int)
    (b1 : n1 ≤ 100) (b2 : n2 ≤ 100) (b3 : n3 ≤ 100) (b4 : n4 ≤ 100) (his : (cv == 1) = is)
    (Hl : Hid (∀ W, Ext w W → Calls Try.prog 10 #[.slice A m c, .int .i64 at'] W fun e W' => e = .returned (.tuple #[.int .u64 lv, .int .i64 le]) ∧ W = W'))
    (Hs : Gives 11 #[.slice A m c, .int .i64 at', .int .u64 a] w (fun s => .tuple #[s, .int .i64 se]) n1 ws1)
    (Hc : Gives 12 #[.slice A m c, .int .i64 at', .int .u64 a, .int .u64 b] w (fun s => .tuple #[s, .bool is, .int .i64 ce]) n2 ws2)
    (Ha : Gives 13 #[.slice A m c, .int .i64 at', .int .u64 a] w (fun s => .tuple #[s, .int .u64 aw, .int .i64 ae]) n3 ws3)
    (Hd : Gives 14 #[.slice A m c, .agg #[.int .i64 k, .int .i64 at', .int .u64 a, .int .u64 b]] w (fun s => .tuple #[s, .int .u64 dx, .int .i64 de]) n4 ws4)
    (H1 : Gives 15 #[.slice A m c, .agg #[.int .i64 1, .int .i64 at', .int .u64 0, .int .u64 0]] w (fun s => .agg #[s, .int .u64 lv, .int .i64 le]) n5 ws5)
    (H2 : Gives 15 #[.slice A m c, .agg #[.int .i64 2, .int .i64 at', .int .u64 a, .int .u64 0]] w (fun s => .agg #[s, .int .u64 0, .int .i64 se]) n1 ws1)
    (H3 : Gives 15 #[.slice A m c, .agg #[.int .i64 3, .int .i64 at', .int .u64 a, .int .u64 b]] w (fun s => .agg #[s, .int .u64 cv, .int .i64 ce]) n2 ws2)
    (H4 : Gives 15 #[.slice A m c, .agg #[.int .i64 4, .int .i64 at', .int .u64 a, .int .u64 0]] w (fun s => .agg #[s, .int .u64 aw, .int .i64 ae]) n3 ws3)
    (H5 : Gives 15 #[.slice A m c, .agg #[.int .i64 k, .int .i64 at', .int .u64 a, .int .u64 b]] w (fun s => .agg #[s, .int .u64 dx, .int .i64 de]) n4 ws4) :
    Calls Try.prog 3 #[.slice A n c, .agg #[.int .i64 k, .int .i64 at', .int .u64 a, .int .u64 b]] w fun e w' => e = .returned (.bool true) ∧ Ext w w' := by
  have hx0 := Ext.new (Ext.refl w) (.cells #[.int .i64 k, .int .i64 at', .int .u64 a, .int .u64 b] 25)
  have HIS := Lib.hid his
  clear his
  go_enter Try.func3, Try.ntmps3
  go_wp2_with fail
  refine (few_any _ _ _ _ hn).mono ?_; rintro e w' ⟨rfl, rfl⟩
  rw [hm.out]
  go_wp2_with fail
  refine (Hl.out _ hx0).mono ?_; rintro e w' ⟨rfl, rfl⟩
  go_wp2_with fail
  refine (Hs _ hx0).mono ?_; rintro e w1 ⟨A1, c1, rfl, hr1, hx1⟩
  have q0 := (Box.new _ _ _).to hx1
  have E1 := hx0.step hx1
  have r0 := q0.2; have z0 := q0.1
  go_wp2_with fail
  clear r0 z0
  refine (Hc _ E1).mono ?_; rintro e w2 ⟨A2, c2, rfl, hr2, hx2⟩
  replace q0 := q0.to hx2
  replace hr1 := hr1.to hx2
  have E2 := E1.step hx2
  clear E1 hx1 hx2
  have r0 := q0.2; have z0 := q0.1
  go_wp2_with fail
  clear r0 z0
  refine (Ha _ E2).mono ?_; rintro e w3 ⟨A3, c3, rfl, hr3, hx3⟩
  replace q0 := q0.to hx3
  replace hr1 := hr1.to hx3
  replace hr2 := hr2.to hx3
  have E3 := E2.step hx3
  clear E2 hx3
  have r0 := q0.2; have z0 := q0.1
  go_wp2_with fail
  clear r0 z0
  refine (Hd _ E3).mono ?_; rintro e w4 ⟨A4, c4, rfl, hr4, hx4⟩
  replace q0 := q0.to hx4
  replace hr1 := hr1.to hx4
  replace hr2 := hr2.to hx4
  replace hr3 := hr3.to hx4
  have E4 := E3.step hx4
  clear E3 hx4
  have r0 := q0.2; have z0 := q0.1
  go_wp2_with fail
  clear r0 z0
  refine (H1 _ E4).mono ?_; rintro e w5 ⟨A5, c5, rfl, hr5, hx5⟩
  replace q0 := q0.to hx5
  replace hr1 := hr1.to hx5
  replace hr2 := hr2.to hx5
  replace hr3 := hr3.to hx5
  replace hr4 := hr4.to hx5
  have E5 := E4.step hx5
  clear E4 hx5
  have r0 := q0.2; have z0 := q0.1
  go_wp2_with fail
  clear r0 z0
  refine (H2 _ (E5.new _)).mono ?_; rintro e w6 ⟨A6, c6, rfl, hr6, hx6⟩
  have f6 := (Ext.new (Ext.refl w5) _).step hx6
  have q1 := (Box.new _ _ _).to hx6
  replace q0 := q0.to f6
  replace hr1 := hr1.to f6
  replace hr2 := hr2.to f6
  replace hr3 := hr3.to f6
  replace hr4 := hr4.to f6
  replace hr5 := hr5.to f6
  have E6 := E5.step f6
  clear f6
  clear E5 hx6
  have r0 := q0.2; have z0 := q0.1
  go_wp2_with fail
  clear r0 z0
  refine (H3 _ (E6.new _)).mono ?_; rintro e w7 ⟨A7, c7, rfl, hr7, hx7⟩
  have f7 := (Ext.new (Ext.refl w6) _).step hx7
  have q2 := (Box.new _ _ _).to hx7
  replace q0 := q0.to f7
  replace q1 := q1.to f7
  replace hr1 := hr1.to f7
  replace hr2 := hr2.to f7
  replace hr3 := hr3.to f7
  replace hr4 := hr4.to f7
  replace hr5 := hr5.to f7
  replace hr6 := hr6.to f7
  have E7 := E6.step f7
  clear f7
  clear E6 hx7
  have r0 := q0.2; have z0 := q0.1
  go_wp2_with fail
  clear r0 z0
  refine (H4 _ (E7.new _)).mono ?_; rintro e w8 ⟨A8, c8, rfl, hr8, hx8⟩
  have f8 := (Ext.new (Ext.refl w7) _).step hx8
  have q3 := (Box.new _ _ _).to hx8
  replace q0 := q0.to f8
  replace q1 := q1.to f8
  replace q2 := q2.to f8
  replace hr1 := hr1.to f8
  replace hr2 := hr2.to f8
  replace hr3 := hr3.to f8
  replace hr4 := hr4.to f8
  replace hr5 := hr5.to f8
  replace hr6 := hr6.to f8
  replace hr7 := hr7.to f8
  have E8 := E7.step f8
  clear f8
  clear E7 hx8
  have r0 := q0.2; have z0 := q0.1
  go_wp2_with fail
  clear r0 z0
  refine (H5 _ (E8.new _)).mono ?_; rintro e w9 ⟨A9, c9, rfl, hr9, hx9⟩
  have f9 := (Ext.new (Ext.refl w8) _).step hx9
  have q4 := (Box.new _ _ _).to hx9
  replace q0 := q0.to f9
  replace q1 := q1.to f9
  replace q2 := q2.to f9
  replace q3 := q3.to f9
  replace hr1 := hr1.to f9
  replace hr2 := hr2.to f9
  replace hr3 := hr3.to f9
  replace hr4 := hr4.to f9
  replace hr5 := hr5.to f9
  replace hr6 := hr6.to f9
  replace hr7 := hr7.to f9
  replace hr8 := hr8.to f9
  have E9 := E8.step f9
  clear f9
  clear E8 hx9
  have r0 := q0.2; have z0 := q0.1
  go_wp2_with fail
  clear r0 z0
  refine (wordRight _ _ _ _).mono ?_; rintro e w' ⟨rfl, rfl⟩
  have r1 := q1.2; have z1 := q1.1; have r2 := q2.2; have z2 := q2.1
  go_wp2_with fail
  clear r1 z1 r2 z2 q0
  refine (same_yes _ _ _ _ _ ws1 _ (hr1.to ((Ext.refl w9).new _)) (hr6.to ((Ext.refl w9).new _)) (by omega)).mono ?_; rintro e w10 ⟨rfl, hx10⟩
  have f10 := (Ext.new (Ext.refl w9) _).step hx10
  have q5 := (Box.new _ _ _).to hx10
  replace q2 := q2.to f10; replace q3 := q3.to f10; replace q4 := q4.to f10
  replace hr2 := hr2.to f10; replace hr3 := hr3.to f10; replace hr4 := hr4.to f10; replace hr7 := hr7.to f10; replace hr8 := hr8.to f10; replace hr9 := hr9.to f10
  have E10 := E9.step f10
  clear f10 hx10 E9 q1 hr1 hr5 hr6
  have r2 := q2.2; have r3 := q3.2
  go_wp2_with fail
  clear r2 r3
  refine (same_yes _ _ _ _ _ ws2 _ hr2 hr7 (by omega)).mono ?_; rintro e w11 ⟨rfl, hx11⟩
  replace q3 := q3.to hx11; replace q4 := q4.to hx11; replace q5 := q5.to hx11
  replace hr3 := hr3.to hx11; replace hr4 := hr4.to hx11; replace hr8 := hr8.to hx11; replace hr9 := hr9.to hx11
  have E11 := E10.step hx11
  clear hx11 E10 q2 hr2 hr7
  have r3 := q3.2
  have his := HIS.out
  go_wp2_with fail
  clear r3 his
  refine (alive_yes _).mono ?_; rintro e w12 ⟨rfl, hx12⟩
  replace q4 := q4.to hx12; replace q5 := q5.to hx12
  replace hr3 := hr3.to hx12; replace hr4 := hr4.to hx12; replace hr8 := hr8.to hx12; replace hr9 := hr9.to hx12
  have E12 := E11.step hx12
  clear hx12 E11 q3
  have r4 := q4.2
  go_wp2_with fail
  clear r4
  refine (same_yes _ _ _ _ _ ws3 _ hr3 hr8 (by omega)).mono ?_; rintro e w13 ⟨rfl, hx13⟩
  replace q4 := q4.to hx13; replace q5 := q5.to hx13
  replace hr4 := hr4.to hx13; replace hr9 := hr9.to hx13
  have E13 := E12.step hx13
  clear hx13 E12
  have r4 := q4.2; have r5 := q5.2
  go_wp2_with fail
  clear r4 r5
  refine (same_yes _ _ _ _ _ ws4 _ hr4 hr9 (by omega)).mono ?_; rintro e w14 ⟨rfl, hx14⟩
  replace q5 := q5.to hx14
  have r5 := q5.2
  go_wp2_with fail
  go_ret
  exact ⟨rfl, E13.step hx14⟩

theorem gives_no {f : Nat} {args : Array Value} {w0 : World} {mk : Value → Value}
    (h : ∀ W, Calls Try.prog f args W fun e W' => e = .returned (mk (.slice none 0 0)) ∧ Ext W W') : Gives f args w0 mk 0 [] :=
  fun W _ => (h W).mono fun _ _ ⟨he, hx⟩ => ⟨none, 0, he, Rd.nil _ _ _, hx⟩

theorem set_same (zs : List Int) (i : Nat) (h : i < zs.length) : zs.set i (ith zs i) = zs := by
  have := set_back zs i (ith zs i) h
  rwa [List.set_set] at this

theorem WordCalls_walk (w : World) (A : Option Addr) (n c : Nat) (zs0 : List Int) (h0 : Rd w 1 A n (Us zs0)) (hn : n ≤ c) (_ : c ≤ maxLen) (_ : ∀ z ∈ zs0, (Lit.int .u64 z).wf = true)
    (k at' a b : Int) (_ : (Lit.int .i64 k).wf = true) (_ : (Lit.int .i64 at').wf = true) (_ : (Lit.int .u64 a).wf = true) (_ : (Lit.int .u64 b).wf = true) :
    Calls Try.prog 3 #[.slice A n c, .agg #[.int .i64 k, .int .i64 at', .int .u64 a, .int .u64 b]] w fun e w' => e = .returned (.bool true) ∧ Ext w w' := by
  obtain ⟨m, hm⟩ : ∃ m, Hid (min n 66 = m) := ⟨_, Lib.hid rfl⟩
  have hmn : m ≤ n := by have := hm.out; omega
  have h := h0.take hmn
  rw [Nat.mul_one, Us_take] at h
  generalize zs0.take m = zs at h
  by_cases hv : m ≤ 64 ∧ 0 ≤ at' ∧ at' < m
  · obtain ⟨h1, h2, h3⟩ := hv
    obtain ⟨i, rfl⟩ := Int.eq_ofNat_of_zero_le h2
    have h3 : i < m := by omega
    obtain ⟨ad, rfl⟩ := h.some_ (by omega) (by omega)
    have hl : i < zs.length := by rw [h.u64len]; exact h3
    have Hl : Hid (∀ W, Ext w W → Calls Try.prog 10 #[.slice (some ad) m c, .int .i64 i] W fun e W' => e = .returned (.tuple #[.int .u64 (ith zs i), .int .i64 0]) ∧ W = W') :=
      fun W hW => load_yes ad m c zs i W (h.to hW) h1 h3
    have Hs : Gives 11 #[.slice (some ad) m c, .int .i64 i, .int .u64 a] w (fun s => .tuple #[s, .int .i64 0]) m (zs.set i a) := fun W hW => store_yes ad m c zs a i W (h.to hW) h1 h3
    have Ha : Gives 13 #[.slice (some ad) m c, .int .i64 i, .int .u64 a] w (fun s => .tuple #[s, .int .u64 (ith zs i), .int .i64 0]) m (zs.set i (IntKind.u64.wrap (ith zs i + a))) := fun W hW => add_yes ad m c zs a i W (h.to hW) h1 h3
    have H1 : Gives 15 #[.slice (some ad) m c, .agg #[.int .i64 1, .int .i64 i, .int .u64 0, .int .u64 0]] w (fun s => .agg #[s, .int .u64 (ith zs i), .int .i64 0]) m zs := fun W hW => ref_1 ad m c zs 0 0 i W (h.to hW) h1 h3
    have H2 : Gives 15 #[.slice (some ad) m c, .agg #[.int .i64 2, .int .i64 i, .int .u64 a, .int .u64 0]] w (fun s => .agg #[s, .int .u64 0, .int .i64 0]) m (zs.set i a) := fun W hW => ref_2 ad m c zs a 0 i W (h.to hW) h1 h3
    have H4 : Gives 15 #[.slice (some ad) m c, .agg #[.int .i64 4, .int .i64 i, .int .u64 a, .int .u64 0]] w (fun s => .agg #[s, .int .u64 (ith zs i), .int .i64 0]) m (zs.set i (IntKind.u64.wrap (ith zs i + a))) := fun W hW => ref_4 ad m c zs a 0 i W (h.to hW) h1 h3
    obtain ⟨is, cv, ws2, his, Hc, H3⟩ : ∃ (is : Bool) (cv : Int) (ws2 : List Int), (cv == 1) = is ∧ Gives 12 #[.slice (some ad) m c, .int .i64 i, .int .u64 a, .int .u64 b] w (fun s => .tuple #[s, .bool is, .int .i64 0]) m ws2 ∧
        Gives 15 #[.slice (some ad) m c, .agg #[.int .i64 3, .int .i64 i, .int .u64 a, .int .u64 b]] w (fun s => .agg #[s, .int .u64 cv, .int .i64 0]) m ws2 := by
      by_cases ho : ith zs i = a
      · exact ⟨true, 1, zs.set i b, rfl, fun W hW => cas_yes ad m c zs a b i W (h.to hW) h1 h3 ho, fun W hW => ref_3 ad m c zs a b i W (h.to hW) h1 h3 (by simpa using ho)⟩
      · exact ⟨false, 0, zs, rfl, fun W hW => cas_not ad m c zs a b i W (h.to hW) h1 h3 ho, fun W hW => ref_3n ad m c zs a b i W (h.to hW) h1 h3 (by simpa using ho)⟩
    cases hk : change k a b (ith zs i) with
    | some x =>
      obtain ⟨now, ans⟩ := x
      have Hd : Gives 14 #[.slice (some ad) m c, .agg #[.int .i64 k, .int .i64 i, .int .u64 a, .int .u64 b]] w (fun s => .tuple #[s, .int .u64 ans, .int .i64 0]) m (zs.set i now) := fun W hW => do_yes ad m c zs k a b i W (h.to hW) h1 h3 now ans hk
      have H5 : Gives 15 #[.slice (some ad) m c, .agg #[.int .i64 k, .int .i64 i, .int .u64 a, .int .u64 b]] w (fun s => .agg #[s, .int .u64 ans, .int .i64 0]) m (zs.set i now) := fun W hW => ref_yes ad m c zs k a b i W (h.to hW) h1 h3 now ans hk
      exact calls_all _ n c m k i a b w hn hm _ _ _ _ _ _ _ _ cv is m m m m m _ _ _ _ _ (by omega) (by omega) (by omega) (by omega) his Hl Hs Hc Ha Hd H1 H2 H3 H4 H5
    | none =>
      have hno : ¬ (m ≤ 64 ∧ 0 ≤ (i : Int) ∧ (i : Int) < m ∧ 1 ≤ k ∧ k ≤ 4) := by
        rintro ⟨_, _, _, h4, h5⟩
        have : k = 1 ∨ k = 2 ∨ k = 3 ∨ k = 4 := by omega
        rcases this with rfl | rfl | rfl | rfl <;> simp [change] at hk
        split at hk <;> cases hk
      have Hd : Gives 14 #[.slice (some ad) m c, .agg #[.int .i64 k, .int .i64 i, .int .u64 a, .int .u64 b]] w (fun s => .tuple #[s, .int .u64 0, .int .i64 1]) 0 [] := gives_no fun W => do_no _ m c k i a b W hno
      have H5 : Gives 15 #[.slice (some ad) m c, .agg #[.int .i64 k, .int .i64 i, .int .u64 a, .int .u64 b]] w (fun s => .agg #[s, .int .u64 0, .int .i64 1]) 0 [] := gives_no fun W => ref_no _ m c k i a b W hno
      exact calls_all _ n c m k i a b w hn hm _ _ _ _ _ _ _ _ cv is m m m 0 m _ _ _ _ _ (by omega) (by omega) (by omega) (by omega) his Hl Hs Hc Ha Hd H1 H2 H3 H4 H5
  · have Hl : Hid (∀ W, Ext w W → Calls Try.prog 10 #[.slice A m c, .int .i64 at'] W fun e W' => e = .returned (.tuple #[.int .u64 0, .int .i64 1]) ∧ W = W') :=
      fun W _ => load_no A m c at' W hv
    have Hs : Gives 11 #[.slice A m c, .int .i64 at', .int .u64 a] w (fun s => .tuple #[s, .int .i64 1]) 0 [] := gives_no fun W => store_no A m c at' a W hv
    have Hc : Gives 12 #[.slice A m c, .int .i64 at', .int .u64 a, .int .u64 b] w (fun s => .tuple #[s, .bool false, .int .i64 1]) 0 [] := gives_no fun W => cas_no A m c at' a b W hv
    have Ha : Gives 13 #[.slice A m c, .int .i64 at', .int .u64 a] w (fun s => .tuple #[s, .int .u64 0, .int .i64 1]) 0 [] := gives_no fun W => add_no A m c at' a W hv
    have Hd : Gives 14 #[.slice A m c, .agg #[.int .i64 k, .int .i64 at', .int .u64 a, .int .u64 b]] w (fun s => .tuple #[s, .int .u64 0, .int .i64 1]) 0 [] := gives_no fun W => do_no A m c k at' a b W (by omega)
    have H (k a b : Int) : Gives 15 #[.slice A m c, .agg #[.int .i64 k, .int .i64 at', .int .u64 a, .int .u64 b]] w (fun s => .agg #[s, .int .u64 0, .int .i64 1]) 0 [] := gives_no fun W => ref_no A m c k at' a b W (by omega)
    exact calls_all A n c m k at' a b w hn hm _ _ _ _ _ _ _ _ 0 false 0 0 0 0 0 _ _ _ _ _ (by omega) (by omega) (by omega) (by omega) rfl Hl Hs Hc Ha Hd (H 1 0 0) (H 2 a 0) (H 3 a b) (H 4 a 0) (H k a b)

end Go.Proofs.Ytfjmocnkhaomiaa
