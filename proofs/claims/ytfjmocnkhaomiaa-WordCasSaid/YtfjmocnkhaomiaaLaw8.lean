/-
  The walk of WordCas: of some swaps of one old value just the first one is done; sums do not hang on the order.
-/
import Derived.Test.YtfjmocnkhaomiaaLaw7
import Derived.Deep.DeepCutAuto
namespace Go.Proofs.Ytfjmocnkhaomiaa
open Go.RowKit

theorem slice_eq {A : Option Addr} {a b c : Nat} (h : a = b) : Value.slice A a c = .slice A b c := by rw [h]

/-- A sum that wraps. -/
def wsum (l : List Int) : Int := IntKind.u64.wrap l.sum
theorem wsum_snoc (l : List Int) (x : Int) : IntKind.u64.wrap (wsum l + x) = wsum (l ++ [x]) := by
  unfold wsum
  rw [IntKind.wrap_u64, IntKind.wrap_u64, IntKind.wrap_u64, List.sum_append]
  simp

theorem w64_small {x : Int} (h1 : -1000 ≤ x) (h2 : x ≤ 1000) : wrap64 x = x := by
  unfold wrap64
  omega
theorem rot_idx (by' : Int) (m t : Nat) (hm : m ≤ 20) (ht : t < m) :
    (wrap64 ((t : Int) + (wrap64 (by'.tmod (m : Int) + (m : Int))).tmod (m : Int))).tmod (m : Int) = (((t + (by' % (m : Int)).toNat) % m : Nat) : Int) := by
  have e0 : 0 ≤ by' % (m : Int) := Int.emod_nonneg _ (by omega)
  have e1 : by' % (m : Int) < m := Int.emod_lt_of_pos _ (by omega)
  have h1 : by'.tmod (m : Int) = by' % (m : Int) ∨ by'.tmod (m : Int) = by' % (m : Int) - m := by
    rw [Int.tmod_eq_emod]
    split
    · left; omega
    · right; simp
  have h2 : (wrap64 (by'.tmod (m : Int) + (m : Int))).tmod (m : Int) = by' % (m : Int) := by
    rcases h1 with h | h
    · rw [h, w64_small (by omega) (by omega), Int.tmod_eq_emod_of_nonneg (by omega), Int.add_emod_right, Int.emod_emod_of_dvd _ (Int.dvd_refl _)]
    · rw [h, w64_small (by omega) (by omega), Int.tmod_eq_emod_of_nonneg (by omega), Int.sub_add_cancel, Int.emod_emod_of_dvd _ (Int.dvd_refl _)]
  rw [h2, w64_small (by omega) (by omega), Int.tmod_eq_emod_of_nonneg (by omega)]
  generalize by' % (m : Int) = e at e0 e1
  obtain ⟨r, rfl⟩ := Int.eq_ofNat_of_zero_le e0
  rw [Int.toNat_natCast]
  push_cast
  rfl
theorem rot_ith (zs : List Int) (r t : Nat) (hr : r < zs.length) (ht : t < zs.length) : ith (zs.drop r ++ zs.take r) t = ith zs ((t + r) % zs.length) := by
  unfold ith
  rw [List.getD_eq_getElem?_getD, List.getD_eq_getElem?_getD]
  congr 1
  by_cases h : t + r < zs.length
  · rw [Nat.mod_eq_of_lt h, List.getElem?_append_left (by simp; omega), List.getElem?_drop, Nat.add_comm]
  · rw [Nat.mod_eq_sub_mod (by omega), Nat.mod_eq_of_lt (by omega), List.getElem?_append_right (by simp; omega), List.getElem?_take, if_pos (by simp; omega)]
    congr 1
    simp
    omega
theorem rot_sum (zs : List Int) (r : Nat) : wsum (zs.drop r ++ zs.take r) = wsum zs := by
  unfold wsum
  congr 1
  have h : zs.sum = (zs.take r ++ zs.drop r).sum := by rw [List.take_append_drop]
  rw [h, List.sum_append, List.sum_append, Int.add_comm]

set_option maxRecDepth 100000 in
set_option maxHeartbeats 2000000 in
theorem cas_walk (A : Option Addr) (n c m : Nat) (zs : List Int) (old by' : Int) (w : World) (hn : n ≤ c) (hm : Hid (min n 20 = m)) (hm20 : m ≤ 20) (h : Rd w 1 A m (Us zs)) :
    Calls Try.prog 5 #[.int .u64 old, .slice A n c, .int .i64 by'] w fun e w' => e = .returned (.bool true) ∧ Ext w w' := by
  have hr0 := Rd.lit w #[.int .u64 old, .int .u64 0] 23 2 (size := 1) rfl
  go_enter Try.func5, Try.ntmps5
  go_upto_region 1 with fail
  go_cut [1] (fun s1 wx => s1 = .slice A m c ∧ w = wx)
  case first =>
    go_wp2_with fail
    all_goals
      go_meet
      case rel => exact ⟨slice_eq (by have := hm.out; omega), rfl⟩
  case rest =>
    obtain ⟨rfl, rfl⟩ := hcut
    go_wp2_with fail
    go_loopw [7, 8, 9, 30] (fun u d f j wr => Ext (w.alloc (.cells #[.int .u64 old, .int .u64 0] 23)) wr ∧ ∃ (t : Nat) (B : Option Addr) (cb : Nat) (d0 f0 x : Int), t ≤ m ∧ j = .int .i64 t ∧ d = .int .i64 d0 ∧ f = .int .u64 f0 ∧ u = .slice B 2 cb ∧ Rd wr 1 B 2 (Us [x, 0]) ∧ (d0 = 0 ∧ x = old ∨ d0 = 1 ∧ f0 = x ∧ x ≠ old)) (fun _ _ _ j _ => m - (intOf j).toNat)
    case atStart => exact ⟨Ext.refl _, 0, _, _, 0, 0, old, Nat.zero_le _, rfl, rfl, rfl, rfl, hr0, .inl ⟨rfl, rfl⟩⟩
    case round =>
      obtain ⟨hx, t, B, cb, d0, f0, x, ht, rfl, rfl, rfl, rfl, hrB, hst⟩ := hrel
      have E := (Ext.new (Ext.refl w) _).step hx
      by_cases hlt : t < m
      · obtain ⟨ad, rfl⟩ := h.some_ (by omega) (by omega)
        have ca := (h.to E).u64 hlt
        obtain ⟨bd, rfl⟩ := hrB.some_ (by omega) (by omega)
        by_cases hv : ith zs t = old
        · have hb : (ith zs t == old) = true := by simpa using hv
          have Hst := Lib.hid hst
          clear hst hv
          go_wp2_with fail
          go_roundw
          case rel => exact ⟨hx, t + 1, _, _, d0, f0, x, by omega, by go_num, rfl, rfl, rfl, hrB, Hst.out⟩
          case measure => simp [intOf]; omega
        · have hb : (ith zs t == old) = false := by simpa using hv
          have Hv := Lib.hid hv
          clear hv
          rcases hst with ⟨rfl, rfl⟩ | ⟨rfl, hf, hne⟩
          · go_wp2_with fail
            refine (cas_yes bd 2 cb [x, 0] x (ith zs t) 0 _ hrB (by omega) (by omega) rfl).mono ?_; rintro e w2 ⟨A2, c2, rfl, hr2, hx2⟩
            go_wp2_with fail
            go_roundw
            case rel => exact ⟨hx.step hx2, t + 1, _, _, 1, _, ith zs t, by omega, by go_num, rfl, rfl, rfl, hr2, .inr ⟨rfl, rfl, Hv.out⟩⟩
            case measure => simp [intOf]; omega
          · have Hf := Lib.hid hf
            have Hne := Lib.hid hne
            clear hf hne
            go_wp2_with fail
            refine (cas_not bd 2 cb [x, 0] old (ith zs t) 0 _ hrB (by omega) (by omega) Hne.out).mono ?_; rintro e w2 ⟨A2, c2, rfl, hr2, hx2⟩
            go_wp2_with fail
            go_roundw
            case rel => exact ⟨hx.step hx2, t + 1, _, _, 1, f0, x, by omega, by go_num, rfl, rfl, rfl, hr2, .inr ⟨rfl, Hf.out, Hne.out⟩⟩
            case measure => simp [intOf]; omega
      · have Hst := Lib.hid hst
        clear hst
        have E0 := E
        clear E
        go_wp2_with fail
        go_loopw [7, 15, 55] (fun u q j wr' => Ext wr wr' ∧ ∃ (t : Nat) (B : Option Addr) (cb : Nat) (y : Int), t ≤ m ∧ j = .int .i64 t ∧ q = .int .u64 (wsum (zs.take t)) ∧ u = .slice B 2 cb ∧ Rd wr' 1 B 2 (Us [x, y]) ∧ y = wsum ((zs.drop (by' % (m : Int)).toNat ++ zs.take (by' % (m : Int)).toNat).take t)) (fun _ _ j _ => m - (intOf j).toNat)
        case atStart => exact ⟨Ext.refl _, 0, _, _, 0, Nat.zero_le _, rfl, rfl, rfl, hrB, rfl⟩
        case round =>
          obtain ⟨hx2, t, B, cb, y, ht, rfl, rfl, rfl, hrB2, hy⟩ := hrel
          have Hy := Lib.hid hy
          clear hy
          by_cases hlt2 : t < m
          · have hm0 : ((m : Int) == 0) = false := by simp; omega
            have hlen := h.u64len
            have e0 : 0 ≤ by' % (m : Int) := Int.emod_nonneg _ (by omega)
            have e1 : by' % (m : Int) < m := Int.emod_lt_of_pos _ (by omega)
            have hrl : (by' % (m : Int)).toNat < m := by omega
            have hkl : (t + (by' % (m : Int)).toNat) % m < m := Nat.mod_lt _ (by omega)
            have hri := rot_ith zs (by' % (m : Int)).toNat t (by omega) (by omega)
            rw [hlen] at hri
            have hidx := rot_idx by' m t hm20 hlt2
            have hs1 := take_snoc zs t (by omega)
            have hs2 := take_snoc (zs.drop (by' % (m : Int)).toNat ++ zs.take (by' % (m : Int)).toNat) t (by simp; omega)
            rw [hri] at hs2
            generalize (t + (by' % (m : Int)).toNat) % m = kk at hkl hidx hs2 hri
            generalize zs.drop (by' % (m : Int)).toNat ++ zs.take (by' % (m : Int)).toNat = rot at hs2 hri Hy
            have Hs1 := Lib.hid hs1
            have Hs2 := Lib.hid hs2
            clear hs1 hs2 hri hrl e0 e1 hlen
            obtain ⟨ad, rfl⟩ := h.some_ (by omega) (by omega)
            obtain ⟨bd, rfl⟩ := hrB2.some_ (by omega) (by omega)
            have ca := (h.to (E0.step hx2)).u64 hkl
            go_wp2_with fail
            clear hidx ca
            refine (add_yes bd 2 cb [x, y] (ith zs kk) 1 _ hrB2 (by omega) (by omega)).mono ?_; rintro e w2 ⟨A2, c2, rfl, hr2, hx3⟩
            have ca := (h.to ((E0.step hx2).step hx3)).u64 hlt2
            go_wp2_with fail
            go_roundw
            case rel =>
              refine ⟨hx2.step hx3, t + 1, _, _, IntKind.u64.wrap (y + ith zs kk), by omega, by go_num, ?_, rfl, hr2, ?_⟩
              · rw [Hs1.out, ← wsum_snoc]
              · rw [Hs2.out, ← wsum_snoc, ← Hy.out]
            case measure => simp [intOf]; omega
          · have htm : t = m := by omega
            subst htm
            have hlen := h.u64len
            have hz : zs.take t = zs := List.take_of_length_le (by omega)
            have hy := Hy.out
            rw [List.take_of_length_le (by simp; omega), rot_sum] at hy
            rw [hz]
            subst hy
            clear Hy hz hlen
            obtain ⟨bd, rfl⟩ := hrB2.some_ (by omega) (by omega)
            have c1 : wr.cell? { block := bd.block, off := bd.off + 1 } = some (.int .u64 (wsum zs)) := hrB2.u64 (j := 1) (by omega)
            have E2 := E0.step hx2
            rcases Hst.out with ⟨rfl, rfl⟩ | ⟨rfl, hf, hne⟩
            · go_wp2_with fail
              refine (alive_yes _).mono ?_; rintro e w4 ⟨rfl, hx4⟩
              have c0 : w4.cell? bd = some (.int .u64 x) := (hrB2.to hx4).u64 (j := 0) (by omega)
              go_wp2_with fail
              go_ret
              exact ⟨rfl, E2.step hx4⟩
            · subst hf
              have Hne := Lib.hid hne
              clear hne
              go_wp2_with fail
              refine (alive_yes _).mono ?_; rintro e w4 ⟨rfl, hx4⟩
              have c0 : w4.cell? bd = some (.int .u64 f0) := (hrB2.to hx4).u64 (j := 0) (by omega)
              go_wp2_with fail
              go_ret
              exact ⟨rfl, E2.step hx4⟩

theorem WordCas_walk (w : World) (old : Int) (_ : (Lit.int .u64 old).wf = true) (A : Option Addr) (n c : Nat) (zs0 : List Int) (h0 : Rd w 1 A n (Us zs0)) (hn : n ≤ c) (_ : c ≤ maxLen) (_ : ∀ z ∈ zs0, (Lit.int .u64 z).wf = true)
    (by' : Int) (_ : (Lit.int .i64 by').wf = true) :
    Calls Try.prog 5 #[.int .u64 old, .slice A n c, .int .i64 by'] w fun e w' => e = .returned (.bool true) ∧ Ext w w' := by
  obtain ⟨m, hm⟩ : ∃ m, Hid (min n 20 = m) := ⟨_, Lib.hid rfl⟩
  have hmn : m ≤ n := by have := hm.out; omega
  have h := h0.take hmn
  rw [Nat.mul_one, Us_take] at h
  exact cas_walk A n c m _ old by' w hn hm (by have := hm.out; omega) h

end Go.Proofs.Ytfjmocnkhaomiaa
