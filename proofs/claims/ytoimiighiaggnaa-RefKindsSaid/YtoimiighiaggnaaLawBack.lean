/-
  The walks of RefBack and RefKinds.
-/
import Derived.Test.YtoimiighiaggnaaRef
set_option linter.unusedVariables false
set_option linter.unusedSimpArgs false
namespace Go.Proofs.Ytoimiighiaggnaa
open Go.RowKit

/-- a is the reference of place p and generation g. -/
structure RefOf (a p g : Int) : Prop where
  may : May p g
  eq : a = 65536 * g + p + 1
section
variable {a p g b o l : Int}
theorem RefOf.lo (h : RefOf a p g) : 0 ≤ a := by have := h.eq; have := h.may; omega
theorem RefOf.hi (h : RefOf a p g) : a ≤ 18446744073709551615 := by have := h.eq; have := h.may; omega
theorem RefOf.nz (h : RefOf a p g) : ¬ a = 0 := by have := h.eq; have := h.may; omega
theorem RefOf.node (h : RefOf a p g) : Node a := by have := h.eq; have := h.may; exact ⟨by omega, by omega, by omega⟩
theorem RefOf.pl (h : RefOf a p g) : a % 65536 - 1 = p := by have := h.eq; have := h.may; omega
theorem RefOf.gn (h : RefOf a p g) : a / 65536 = g := by have := h.eq; have := h.may; omega
theorem RefOf.ne_p (h : RefOf a p g) (k : RefOf b o l) (e : ¬ p = o) : ¬ a = b := by have := h.eq; have := h.may; have := k.eq; have := k.may; omega
theorem RefOf.ne_g (h : RefOf a p g) (k : RefOf b o l) (e : ¬ g = l) : ¬ a = b := by have := h.eq; have := h.may; have := k.eq; have := k.may; omega
theorem RefOf.next (h : RefOf a p g) (k : RefOf b p (g + 1)) : b - a = 65536 := by have := h.eq; have := k.eq; omega
end
theorem of_ref (a p g : Int) (w : World) (h : RefOf a p g) :
    Calls Try.prog 6 #[.int .i64 p, .int .i64 g] w fun e w' => e = .returned (.tuple #[.int .u64 a, .int .i64 0]) ∧ w = w' := by
  rw [h.eq]; exact Of_yes p g w h.may
theorem place_ref (a p g : Int) (w : World) (h : RefOf a p g) :
    Calls Try.prog 12 #[.int .u64 a] w fun e w' => e = .returned (.int .i64 p) ∧ w = w' := by
  have k := Place_yes a w h.lo h.hi h.node
  rw [h.pl] at k; exact k
theorem gen_ref (a p g : Int) (w : World) (h : RefOf a p g) :
    Calls Try.prog 13 #[.int .u64 a] w fun e w' => e = .returned (.int .i64 g) ∧ w = w' := by
  have k := Gen_yes a w h.lo h.hi h.node
  rw [h.gn] at k; exact k
theorem right_ref (a p g : Int) (w : World) (h : RefOf a p g) :
    Calls Try.prog 11 #[.int .u64 a] w fun e w' => e = .returned (.bool true) ∧ w = w' := by
  have k := Right_not a w h.lo h.hi h.nz
  rw [decide_eq_true h.node] at k; exact k

theorem cut_mod (p m : Int) (hm : 0 < m) (hM : m ≤ 1048577) : ∃ q, (wrap64 (p.tmod m + m)).tmod m = q ∧ 0 ≤ q ∧ q < m := by
  have h1 := Int.lt_tmod_of_pos p hm
  have h2 := Int.tmod_lt_of_pos p hm
  have hw : wrap64 (p.tmod m + m) = p.tmod m + m := by unfold wrap64; omega
  refine ⟨_, rfl, ?_, Int.tmod_lt_of_pos _ hm⟩
  rw [hw]
  exact Int.tmod_nonneg m (by omega)

set_option maxHeartbeats 400000 in
theorem back_same (w : World) (p g o l p' g' o' l' a b : Int) (hp : (wrap64 (p.tmod 512 + 512)).tmod 512 = p') (hg : (wrap64 (g.tmod 1048577 + 1048577)).tmod 1048577 = g')
    (ho : (wrap64 (o.tmod 512 + 512)).tmod 512 = o') (hl : (wrap64 (l.tmod 1048577 + 1048577)).tmod 1048577 = l') (ka : RefOf a p' g') (kb : RefOf b o' l')
    (p0 : -9223372036854775808 ≤ p) (p1 : p ≤ 9223372036854775807) (g0 : -9223372036854775808 ≤ g) (g1 : g ≤ 9223372036854775807)
    (o0 : -9223372036854775808 ≤ o) (o1 : o ≤ 9223372036854775807) (l0 : -9223372036854775808 ≤ l) (l1 : l ≤ 9223372036854775807) (rb : a = b) (ro : p' = o') (rl : g' = l') :
    Calls Try.prog 4 #[.int .i64 p, .int .i64 g, .int .i64 o, .int .i64 l] w fun e w' => e = .returned (.bool true) ∧ w = w' := by
  have KA := Lib.hid ka
  have KB := Lib.hid kb
  have HP := Lib.hid hp
  have HG := Lib.hid hg
  have HO := Lib.hid ho
  have HL := Lib.hid hl
  clear ka kb hp hg ho hl
  have HN := Lib.hid (KA.out.nz)
  subst rb ro rl
  have e0 : (a != 0) = true := bne_iff_ne.mpr HN.out
  go_enter Try.func4, Try.ntmps4
  go_wp2_with fail
  rw [HP.out, HG.out]
  refine (of_ref a _ _ _ KA.out).mono ?_; rintro e w1 ⟨rfl, rfl⟩
  go_wp2_with fail
  rw [HO.out, HL.out]
  refine (of_ref _ _ _ _ KB.out).mono ?_; rintro e w1 ⟨rfl, rfl⟩
  go_wp2_with fail
  refine (alive_yes _).mono ?_; rintro e w1 ⟨rfl, rfl⟩
  go_wp2_with fail
  refine (place_ref a _ _ _ KA.out).mono ?_; rintro e w1 ⟨rfl, rfl⟩
  try rw [HP.out]
  go_wp2_with fail
  refine (gen_ref a _ _ _ KA.out).mono ?_; rintro e w1 ⟨rfl, rfl⟩
  go_wp2_with fail
  refine (right_ref a _ _ _ KA.out).mono ?_; rintro e w1 ⟨rfl, rfl⟩
  go_wp2_with fail
  go_ret
  exact ⟨rfl, rfl⟩

set_option maxHeartbeats 400000 in
theorem back_gen (w : World) (p g o l p' g' o' l' a b : Int) (hp : (wrap64 (p.tmod 512 + 512)).tmod 512 = p') (hg : (wrap64 (g.tmod 1048577 + 1048577)).tmod 1048577 = g')
    (ho : (wrap64 (o.tmod 512 + 512)).tmod 512 = o') (hl : (wrap64 (l.tmod 1048577 + 1048577)).tmod 1048577 = l') (ka : RefOf a p' g') (kb : RefOf b o' l')
    (p0 : -9223372036854775808 ≤ p) (p1 : p ≤ 9223372036854775807) (g0 : -9223372036854775808 ≤ g) (g1 : g ≤ 9223372036854775807)
    (o0 : -9223372036854775808 ≤ o) (o1 : o ≤ 9223372036854775807) (l0 : -9223372036854775808 ≤ l) (l1 : l ≤ 9223372036854775807) (ro : p' = o') (ne : ¬ g' = l') :
    Calls Try.prog 4 #[.int .i64 p, .int .i64 g, .int .i64 o, .int .i64 l] w fun e w' => e = .returned (.bool true) ∧ w = w' := by
  have KA := Lib.hid ka
  have KB := Lib.hid kb
  have HP := Lib.hid hp
  have HG := Lib.hid hg
  have HO := Lib.hid ho
  have HL := Lib.hid hl
  clear ka kb hp hg ho hl
  have HN := Lib.hid (KA.out.nz)
  have e1 : (a == b) = false := beq_false_of_ne (KA.out.ne_g KB.out ne)
  have e2 : (g' == l') = false := beq_false_of_ne ne
  subst ro
  clear ne
  have e0 : (a != 0) = true := bne_iff_ne.mpr HN.out
  go_enter Try.func4, Try.ntmps4
  go_wp2_with fail
  rw [HP.out, HG.out]
  refine (of_ref a _ _ _ KA.out).mono ?_; rintro e w1 ⟨rfl, rfl⟩
  go_wp2_with fail
  rw [HO.out, HL.out]
  refine (of_ref _ _ _ _ KB.out).mono ?_; rintro e w1 ⟨rfl, rfl⟩
  go_wp2_with fail
  refine (alive_yes _).mono ?_; rintro e w1 ⟨rfl, rfl⟩
  go_wp2_with fail
  refine (place_ref a _ _ _ KA.out).mono ?_; rintro e w1 ⟨rfl, rfl⟩
  try rw [HP.out]
  go_wp2_with fail
  refine (gen_ref a _ _ _ KA.out).mono ?_; rintro e w1 ⟨rfl, rfl⟩
  go_wp2_with fail
  refine (right_ref a _ _ _ KA.out).mono ?_; rintro e w1 ⟨rfl, rfl⟩
  go_wp2_with fail
  go_ret
  exact ⟨rfl, rfl⟩

set_option maxHeartbeats 400000 in
theorem back_place (w : World) (p g o l p' g' o' l' a b : Int) (hp : (wrap64 (p.tmod 512 + 512)).tmod 512 = p') (hg : (wrap64 (g.tmod 1048577 + 1048577)).tmod 1048577 = g')
    (ho : (wrap64 (o.tmod 512 + 512)).tmod 512 = o') (hl : (wrap64 (l.tmod 1048577 + 1048577)).tmod 1048577 = l') (ka : RefOf a p' g') (kb : RefOf b o' l')
    (p0 : -9223372036854775808 ≤ p) (p1 : p ≤ 9223372036854775807) (g0 : -9223372036854775808 ≤ g) (g1 : g ≤ 9223372036854775807)
    (o0 : -9223372036854775808 ≤ o) (o1 : o ≤ 9223372036854775807) (l0 : -9223372036854775808 ≤ l) (l1 : l ≤ 9223372036854775807) (ne : ¬ p' = o') :
    Calls Try.prog 4 #[.int .i64 p, .int .i64 g, .int .i64 o, .int .i64 l] w fun e w' => e = .returned (.bool true) ∧ w = w' := by
  have KA := Lib.hid ka
  have KB := Lib.hid kb
  have HP := Lib.hid hp
  have HG := Lib.hid hg
  have HO := Lib.hid ho
  have HL := Lib.hid hl
  clear ka kb hp hg ho hl
  have HN := Lib.hid (KA.out.nz)
  have e1 : (a == b) = false := beq_false_of_ne (KA.out.ne_p KB.out ne)
  have e2 : (p' == o') = false := beq_false_of_ne ne
  clear ne
  have e0 : (a != 0) = true := bne_iff_ne.mpr HN.out
  go_enter Try.func4, Try.ntmps4
  go_wp2_with fail
  rw [HP.out, HG.out]
  refine (of_ref a _ _ _ KA.out).mono ?_; rintro e w1 ⟨rfl, rfl⟩
  go_wp2_with fail
  rw [HO.out, HL.out]
  refine (of_ref _ _ _ _ KB.out).mono ?_; rintro e w1 ⟨rfl, rfl⟩
  go_wp2_with fail
  refine (alive_yes _).mono ?_; rintro e w1 ⟨rfl, rfl⟩
  go_wp2_with fail
  refine (place_ref a _ _ _ KA.out).mono ?_; rintro e w1 ⟨rfl, rfl⟩
  try rw [HP.out]
  go_wp2_with fail
  refine (gen_ref a _ _ _ KA.out).mono ?_; rintro e w1 ⟨rfl, rfl⟩
  go_wp2_with fail
  refine (right_ref a _ _ _ KA.out).mono ?_; rintro e w1 ⟨rfl, rfl⟩
  go_wp2_with fail
  go_ret
  exact ⟨rfl, rfl⟩

theorem RefBack_walk (w : World) (p : Int) (wp : (Lit.int .i64 p).wf = true) (g : Int) (wg : (Lit.int .i64 g).wf = true) (o : Int) (wo : (Lit.int .i64 o).wf = true) (l : Int) (wl : (Lit.int .i64 l).wf = true) :
    Calls Try.prog 4 #[.int .i64 p, .int .i64 g, .int .i64 o, .int .i64 l] w fun e w' => e = .returned (.bool true) ∧ Below w.heap.size w w' := by
  obtain ⟨p0, p1⟩ := bounds_i64 wp
  obtain ⟨g0, g1⟩ := bounds_i64 wg
  obtain ⟨o0, o1⟩ := bounds_i64 wo
  obtain ⟨l0, l1⟩ := bounds_i64 wl
  obtain ⟨p', hp, p2, p3⟩ := cut_mod p 512 (by omega) (by omega)
  obtain ⟨g', hg, g2, g3⟩ := cut_mod g 1048577 (by omega) (by omega)
  obtain ⟨o', ho, o2, o3⟩ := cut_mod o 512 (by omega) (by omega)
  obtain ⟨l', hl, l2, l3⟩ := cut_mod l 1048577 (by omega) (by omega)
  have ka : RefOf (65536 * g' + p' + 1) p' g' := ⟨⟨by omega, by omega, by omega, by omega⟩, rfl⟩
  have kb : RefOf (65536 * l' + o' + 1) o' l' := ⟨⟨by omega, by omega, by omega, by omega⟩, rfl⟩
  have k : Calls Try.prog 4 #[.int .i64 p, .int .i64 g, .int .i64 o, .int .i64 l] w fun e w' => e = .returned (.bool true) ∧ w = w' := by
    by_cases n1 : p' = o'
    · by_cases n2 : g' = l'
      · exact back_same w p g o l p' g' o' l' _ _ hp hg ho hl ka kb p0 p1 g0 g1 o0 o1 l0 l1 (by rw [n1, n2]) n1 n2
      · exact back_gen w p g o l p' g' o' l' _ _ hp hg ho hl ka kb p0 p1 g0 g1 o0 o1 l0 l1 n1 n2
    · exact back_place w p g o l p' g' o' l' _ _ hp hg ho hl ka kb p0 p1 g0 g1 o0 o1 l0 l1 n1
  refine k.mono ?_
  rintro e w' ⟨rfl, rfl⟩
  exact ⟨rfl, Below.refl _ _⟩

set_option maxHeartbeats 400000 in
theorem RefKinds_walk (w : World) (p : Int) (wp : (Lit.int .i64 p).wf = true) (g : Int) (wg : (Lit.int .i64 g).wf = true) :
    Calls Try.prog 5 #[.int .i64 p, .int .i64 g] w fun e w' => e = .returned (.bool true) ∧ Below w.heap.size w w' := by
  obtain ⟨p0, p1⟩ := bounds_i64 wp
  obtain ⟨g0, g1⟩ := bounds_i64 wg
  obtain ⟨p', hp, p2, p3⟩ := cut_mod p 512 (by omega) (by omega)
  obtain ⟨g', hg, g2, g3⟩ := cut_mod g 1048576 (by omega) (by omega)
  obtain ⟨a, ka⟩ : ∃ a, RefOf a p' g' := ⟨_, ⟨by omega, by omega, by omega, by omega⟩, rfl⟩
  obtain ⟨b, kb⟩ : ∃ b, RefOf b p' (g' + 1) := ⟨_, ⟨by omega, by omega, by omega, by omega⟩, rfl⟩
  have KA := Lib.hid ka
  have KB := Lib.hid kb
  have HP := Lib.hid hp
  have HG := Lib.hid hg
  have e0 : (a != b) = true := bne_iff_ne.mpr (ka.ne_g kb (by omega))
  have e1 : (a == b) = false := beq_false_of_ne (ka.ne_g kb (by omega))
  have hD := ka.next kb
  have hE : (IntKind.u64.wrap (b - a) == 65536) = true := by rw [hD]; rfl
  have a0 := ka.lo
  have a1 := ka.hi
  have b0 := kb.lo
  have b1 := kb.hi
  have HW := Lib.hid (show wrap64 (g' + 1) = g' + 1 by unfold wrap64; omega)
  have HB := Lib.hid (show IntKind.u64.wrap 65536 = 65536 by rw [IntKind.wrap_u64]; omega)
  clear ka kb hp hg
  go_enter Try.func5, Try.ntmps5
  go_wp2_with fail
  rw [HP.out, HG.out]
  refine (of_ref a _ _ _ KA.out).mono ?_; rintro e w1 ⟨rfl, rfl⟩
  go_wp2_with fail
  try rw [HP.out]
  try rw [HG.out]
  refine (of_ref b _ _ _ KB.out).mono ?_; rintro e w1 ⟨rfl, rfl⟩
  go_wp2_with fail
  refine (alive_yes _).mono ?_; rintro e w1 ⟨rfl, rfl⟩
  go_wp2_with fail
  refine (place_ref a _ _ _ KA.out).mono ?_; rintro e w1 ⟨rfl, rfl⟩
  go_wp2_with fail
  refine (place_ref b _ _ _ KB.out).mono ?_; rintro e w1 ⟨rfl, rfl⟩
  go_wp2_with fail
  refine (gen_ref b _ _ _ KB.out).mono ?_; rintro e w1 ⟨rfl, rfl⟩
  go_wp2_with fail
  refine (Right_zero _).mono ?_; rintro e w1 ⟨rfl, rfl⟩
  go_wp2_with fail
  refine (Place_no 0 _ (by omega) (by omega) (by omega)).mono ?_; rintro e w1 ⟨rfl, rfl⟩
  go_wp2_with fail
  go_ret
  exact ⟨rfl, Below.refl _ _⟩

end Go.Proofs.Ytoimiighiaggnaa
