/-
  Contracts: what a reference has (taken, Get).
-/
import Derived.Test.YtmfpgbiicncpcaaFree
import Derived.Test.YtmfpgbiicncpcaaLater
import Derived.Deep.DeepCutAuto
import Derived.Deep.RegionHeld3
import Derived.Laws.ResultCell
set_option linter.unusedVariables false
set_option linter.unusedSimpArgs false
namespace Go.Proofs.Ytmfpgbiicncpcaa
open Go.RowKit

/-- A reference has the node x, at place p. -/
structure Got (ns : List Nd) (r : Int) (p : Nat) (x : Nd) : Prop where
  node : Node r
  place : r % 65536 = p + 1
  at_ : ns[p]? = some x
  kind : x.k ≠ 0
  gen : x.g = r / 65536
def Gone (ns : List Nd) (r : Int) : Prop := ∀ p x, ¬ Got ns r p x

theorem setCells_only (b : Nat) : ∀ (cs : List Value) (o : Nat) (W W0 : World), Only b W0 W → Only b W0 (W.setCells b o cs)
  | [], _, _, _, h => h
  | c :: cs, o, W, W0, h => setCells_only b cs (o + 1) _ W0 (h.set o c)
theorem Bx.stored {w : World} {b : Nat} {cs : Array Value} (h : Bx w b cs) {ds : Array Value} (hs : cs.size = ds.size) : Bx (w.setCells b 0 ds.toList) b ds := by
  have hin : ∀ j, j < ds.toList.length → (w.cell? ⟨b, 0 + j, none⟩).isSome = true := fun j hj => by
    rw [Nat.zero_add, h.cell j, Array.getElem?_eq_getElem (by simpa [hs] using hj)]; rfl
  refine ⟨Nat.lt_of_lt_of_le h.lt (setCells_only b ds.toList 0 w w (Only.refl b w)).size, fun j => ?_, fun j => by rw [World.frozen?_setCells]; exact h.free j⟩
  by_cases hj : j < ds.size
  · have := World.cell?_setCells_in b ds.toList 0 w hin j (by simpa using hj)
    rw [Nat.zero_add] at this
    rw [this]
    simp [hj]
  · rw [World.cell?_setCells_out b ds.toList 0 w ⟨b, j, none⟩ (fun _ _ => by right; simpa using hj), h.cell j, Array.getElem?_eq_none (by omega), Array.getElem?_eq_none (by omega)]

/-- THE OPERATION: a whole node goes into a variable of the call's own. -/
theorem wpList_store_box {ops : Array Oper} {rest : List Oper} {o : Oper} {a : Act} {w : World} {Q : Exit → Act → World → Prop} (hgd : Region.wanted o (yielded ops a.tmps) = true) (x y : Operand) (ho : o.op = .store 30 x y)
    (b : Nat) (hx : a.eval x = .pointer (some ⟨b, 0, none⟩)) (n : Nd) (hy : a.eval y = .agg n.arr) (cs : Array Value) (hB : Bx w b cs) (hc : cs.size = 16)
    (h : ∀ W, Bx W b n.arr → Only b w W → wpList Try.prog ops Q rest (a.put o.dst undef) W) : wpList Try.prog ops Q (o :: rest) a w := by
  have ht : w.there b 0 n.arr.size := fun j hj => by
    rw [Nat.zero_add]
    refine ⟨?_, hB.free j⟩
    rw [hB.cell j, Array.getElem?_eq_getElem (by rw [hc]; exact hj)]; rfl
  exact Go.BigFrame.wpList_want hgd fun K hK => by
    unfold Oper.wp execOp
    simp only [ho, hx, hy, Sem.run_bind, run_storeAt_mid (P := Try.prog) w b 0 30 n.arr ht (by kernel_rfl) n.arr_one, Sem.run_pure, Result.andThen_ok]
    exact hK _ _ (h _ (hB.stored (by rw [hc]; rfl)) (setCells_only b _ 0 w w (Only.refl b w)))

/-- Two results, the first one a node in a variable. -/
theorem results_nd {fn : Func} {p u : Tmp} (h : fn.results = #[.cell p 30, .tmp u]) (tmps : Array Value) (w : World) (A : Addr) (x : Nd) (hp : tmps.getD p undef = .pointer (some A)) (hn : NdAt w A x) :
    (results fn tmps).run Try.prog w = .ok (.tuple #[.agg x.arr, tmps.getD u undef]) w := by
  have hl := run_loadVar_any (P := Try.prog) w A 30 x.arr _ (fun j v hv => hn j v (by rw [← Nd.arr_get]; exact hv)) Try.underlying30 rfl (by kernel_rfl)
  rw [results_cell_tmp h]
  simp only [hp]
  show (Result.ok A w).andThen _ = _
  simp only [Result.andThen_ok, hl]

theorem taken_no (A : Option Addr) (n c : Nat) (B : Value) (ns : List Nd) (y : Int) (w : World) (h : Rd w 16 A n (flat Nd.cells ns)) (hno : ∀ (p : Nat) (x : Nd), y = p → ns[p]? = some x → x.k = 0) :
    Calls Try.prog 25 #[.agg #[.slice A n c, B], .int .i64 y] w fun e w' => e = .returned (.bool false) ∧ Ext w w' := by
  have hl : ns.length = n := by
    have := h.1
    rw [flat_length Nd.cells_length] at this
    omega
  have HL := Lib.hid hl
  have hw := Lib.hid (fun W => within_is y n W)
  by_cases hin : In y n
  · rw [decide_eq_true hin] at hw
    obtain ⟨p, rfl⟩ : ∃ p : Nat, y = p := ⟨y.toNat, by have := hin.1; omega⟩
    have hp : p < n := by have := hin.2; omega
    obtain ⟨x, hx⟩ : ∃ x, ns[p]? = some x := ⟨_, List.getElem?_eq_getElem (by omega)⟩
    have hk := hno p x rfl hx
    obtain ⟨ad, rfl, hn⟩ := NdAt.of h hx
    have hn1 := hn.to ((Ext.refl w).new (.cells #[.slice (some ad) n c, B] 25))
    have c0 : (w.alloc (.cells #[.slice (some ad) n c, B] 25)).cell? (ad.add (p * 16)) = some (.int .i64 0) := by
      have := hn1 0 (.int .i64 x.k) rfl
      rw [hk] at this
      exact this
    clear hno hin hx hl h hn hn1 hk
    go_enter Try.func25, Try.ntmps25
    go_wp2_with fail
    refine (hw.out _).mono ?_; rintro e w1 ⟨rfl, rfl⟩
    go_wp2_with fail
    go_ret
    exact ⟨rfl, (Ext.refl w).new _⟩
  · rw [decide_eq_false hin] at hw
    clear hin hno
    go_enter Try.func25, Try.ntmps25
    go_wp2_with fail
    refine (hw.out _).mono ?_; rintro e w1 ⟨rfl, rfl⟩
    go_wp2_with fail
    go_ret
    exact ⟨rfl, (Ext.refl w).new _⟩

theorem taken_yes (A : Option Addr) (n c : Nat) (B : Value) (ns : List Nd) (p : Nat) (x : Nd) (w : World) (h : Rd w 16 A n (flat Nd.cells ns)) (hx : ns[p]? = some x) (hk : x.k ≠ 0) :
    Calls Try.prog 25 #[.agg #[.slice A n c, B], .int .i64 p] w fun e w' => e = .returned (.bool true) ∧ Ext w w' := by
  have hl : ns.length = n := by
    have := h.1
    rw [flat_length Nd.cells_length] at this
    omega
  have hp : p < n := by have := (List.getElem?_eq_some_iff.1 hx).1; omega
  have hw := Lib.hid (fun W => within_is (p : Int) n W)
  rw [decide_eq_true (show In (p : Int) n from ⟨by omega, by omega⟩)] at hw
  obtain ⟨ad, rfl, hn⟩ := NdAt.of h hx
  have hn1 := hn.to ((Ext.refl w).new (.cells #[.slice (some ad) n c, B] 25))
  have c0 : (w.alloc (.cells #[.slice (some ad) n c, B] 25)).cell? (ad.add (p * 16)) = some (.int .i64 x.k) := hn1 0 (.int .i64 x.k) rfl
  have hk0 : (x.k == 0) = false := by simp [hk]
  have hk1 : (x.k != 0) = true := by simp [hk]
  obtain ⟨kk, hkk⟩ : ∃ kk, kk = x.k := ⟨_, rfl⟩
  rw [← hkk] at c0 hk0 hk1 hk
  clear hx hl h hn hn1 hkk
  go_enter Try.func25, Try.ntmps25
  go_wp2_with fail
  refine (hw.out _).mono ?_; rintro e w1 ⟨rfl, rfl⟩
  go_wp2_with fail
  go_ret
  exact ⟨rfl, (Ext.refl w).new _⟩

set_option maxHeartbeats 1600000 in
theorem get_yes (A : Option Addr) (n c m d : Nat) (B : Option Addr) (ns : List Nd) (r : Int) (p : Nat) (x : Nd) (w : World) (h0 : 0 ≤ r) (h1 : r ≤ 18446744073709551615) (h : Rd w 16 A n (flat Nd.cells ns)) (hg : Got ns r p x) :
    Calls Try.prog 11 #[.agg #[.slice A n c, .slice B m d], .int .u64 r] w fun e w' => e = .returned (.tuple #[.agg x.arr, .int .i64 0]) ∧ Ext w w' := by
  obtain ⟨w1, hw1⟩ : ∃ w1, w1 = w.alloc (.cells #[.slice A n c, .slice B m d] 25) := ⟨_, rfl⟩
  obtain ⟨w2, hw2⟩ : ∃ w2, w2 = w1.alloc (.cells #[.int .i64 0, .int .i64 0, .int .i64 0, .int .i64 0, .int .i64 0, .int .u64 0, .int .u64 0, .int .u64 0, .int .u64 0, .int .u64 0, .int .u64 0, .int .u64 0, .int .u64 0, .int .u64 0, .int .i64 0, .int .i64 0] 30) := ⟨_, rfl⟩
  obtain ⟨B1, hx1, hs1⟩ := box_made hw1
  obtain ⟨B2, hx2, hs2⟩ := box_made hw2
  rw [hs1] at B2
  have hl : ns.length = n := by
    have := h.1
    rw [flat_length Nd.cells_length] at this
    omega
  have hp : p < n := by have := (List.getElem?_eq_some_iff.1 hg.at_).1; omega
  obtain ⟨ad, rfl, hn⟩ := NdAt.of (h.to (hx1.step hx2)) hg.at_
  have HT := Lib.hid (fun W (hW : Ext w2 W) => taken_yes (some ad) n c (.slice B m d) ns p x W ((h.to (hx1.step hx2)).to hW) hg.at_ hg.kind)
  have HP := Lib.hid (fun W => Place_yes r W h0 h1 hg.node)
  rw [show r % 65536 - 1 = (p : Int) by rw [hg.place]; omega] at HP
  have HG := Lib.hid (fun W => Gen_yes r W h0 h1 hg.node)
  rw [← hg.gen] at HG
  have H1 := Lib.hid hw1
  have H2 := Lib.hid hw2
  have X2 := Lib.hid (hx1.step hx2)
  have HS := Lib.hid (fun W (hW : Ext w2 W) => show W.cell? ⟨w.heap.size, 0, none⟩ = some (.slice (some ad) n c) ∧ W.cell? ⟨w.heap.size, 1, none⟩ = some (.slice B m d) ∧ W.cell? { block := (ad.add (p * 16)).block, off := (ad.add (p * 16)).off + 1 } = some (.int .i64 x.g) from
    ⟨((B1.to hx2).to hW).cell 0, ((B1.to hx2).to hW).cell 1, (hn.to hW) 1 _ rfl⟩)
  have HN := Lib.hid hn
  have HB := Lib.hid B2
  have HBA := Lib.hid (B1.to hx2)
  clear hw1 hw2 B1 B2 hx1 hx2 hs1 hs2 hl hg h hn
  go_enter Try.func11, Try.ntmps11
  go_wp2_with fail
  refine (HP.out _).mono ?_; rintro e w3 ⟨rfl, rfl⟩
  rw [← H1.out, ← H2.out]
  go_wp2_with fail
  go_cut [23] (fun t wx => t = .bool false ∧ Ext w2 wx)
  case first =>
    go_region_held3 (fun W => W.cell? ⟨w.heap.size, 0, none⟩ = some (.slice (some ad) n c) ∧ W.cell? ⟨w.heap.size, 1, none⟩ = some (.slice B m d) ∧ W.cell? { block := (ad.add (p * 16)).block, off := (ad.add (p * 16)).off + 1 } = some (.int .i64 x.g)) (first | exact HS.out _ (Ext.refl w2).drew | exact HS.out _ hx8) (first
      | (go_at_call 25; refine (HT.out _ (Ext.refl w2).drew).mono ?_; rintro e w8 ⟨rfl, hx8'⟩; have hx8 : Ext w2 w8 := hx8'.undrew; clear hx8')
      | (go_at_call 26; refine (HG.out _).mono ?_; rintro e w9 ⟨rfl, rfl⟩))
    all_goals go_wp2_with fail
    all_goals go_meet
    all_goals exact ⟨rfl, hx8⟩
  case rest =>
    obtain ⟨rfl, hx⟩ := hcut
    rename World => wq
    have q0 : wq.cell? ⟨w.heap.size, 0, none⟩ = some (.slice (some ad) n c) := (HBA.out.to hx).cell 0
    have hnq := HN.out.to hx
    have hbq := HB.out.to hx
    have HX := Lib.hid (X2.out.step hx)
    have HE := Lib.hid (X2.out)
    go_wp2_with (first
      | (refine wpList_load_nd (by rfl) _ (by rfl) _ (by rfl) x hnq ?_)
      | (refine wpList_store_box (by rfl) _ _ (by rfl) _ (by rfl) x (by rfl) _ hbq rfl ?_; intro wz hbz hoz))
    refine bodyPost_ret (results_nd rfl _ _ ⟨w.heap.size + 1, 0, none⟩ x (by rfl) hbz.node) rfl ⟨rfl, ?_⟩
    exact hoz.new HX.out (by omega)

theorem bare_zero : #[.int .i64 0, .int .i64 0, .int .i64 0, .int .i64 0, .int .i64 0, .int .u64 0, .int .u64 0, .int .u64 0, .int .u64 0, .int .u64 0, .int .u64 0, .int .u64 0, .int .u64 0, .int .u64 0, .int .i64 0, .int .i64 0] = (bare 0).arr := rfl

set_option maxHeartbeats 1600000 in
theorem get_no (A : Option Addr) (n c m d : Nat) (B : Option Addr) (ns : List Nd) (r : Int) (w : World) (h0 : 0 ≤ r) (h1 : r ≤ 18446744073709551615) (h : Rd w 16 A n (flat Nd.cells ns)) (hg : Gone ns r) :
    Calls Try.prog 11 #[.agg #[.slice A n c, .slice B m d], .int .u64 r] w fun e w' => e = .returned (.tuple #[.agg (bare 0).arr, .int .i64 4]) ∧ Ext w w' := by
  obtain ⟨w1, hw1⟩ : ∃ w1, w1 = w.alloc (.cells #[.slice A n c, .slice B m d] 25) := ⟨_, rfl⟩
  obtain ⟨w2, hw2⟩ : ∃ w2, w2 = w1.alloc (.cells #[.int .i64 0, .int .i64 0, .int .i64 0, .int .i64 0, .int .i64 0, .int .u64 0, .int .u64 0, .int .u64 0, .int .u64 0, .int .u64 0, .int .u64 0, .int .u64 0, .int .u64 0, .int .u64 0, .int .i64 0, .int .i64 0] 30) := ⟨_, rfl⟩
  obtain ⟨B1, hx1, hs1⟩ := box_made hw1
  obtain ⟨B2, hx2, hs2⟩ := box_made hw2
  rw [hs1] at B2
  have hl : ns.length = n := by
    have := h.1
    rw [flat_length Nd.cells_length] at this
    omega
  have H1 := Lib.hid hw1
  have H2 := Lib.hid hw2
  have X2 := Lib.hid (hx1.step hx2)
  have HR := Lib.hid (h.to (hx1.step hx2))
  have HB := Lib.hid B2
  have HBA := Lib.hid (B1.to hx2)
  have HL := Lib.hid hl
  clear hw1 hw2 B1 B2 hx1 hx2 hs1 hs2 hl h
  by_cases hr : Node r
  · have HP := Lib.hid (fun W => Place_yes r W h0 h1 hr)
    have HG := Lib.hid (fun W => Gen_yes r W h0 h1 hr)
    obtain ⟨p, hp⟩ : ∃ p : Nat, r % 65536 = p + 1 := ⟨(r % 65536 - 1).toNat, by have := hr.1; omega⟩
    rw [show r % 65536 - 1 = (p : Int) by rw [hp]; omega] at HP
    by_cases hx : ∃ x, ns[p]? = some x ∧ x.k ≠ 0
    · obtain ⟨x, hx, hk⟩ := hx
      have hgn : x.g ≠ r / 65536 := fun e => hg p x ⟨hr, hp, hx, hk, e⟩
      have HT := Lib.hid (fun W (hW : Ext w2 W) => taken_yes A n c (.slice B m d) ns p x W (HR.out.to hW) hx hk)
      obtain ⟨ad, rfl, hn⟩ := NdAt.of HR.out hx
      have HS := Lib.hid (fun W (hW : Ext w2 W) => show W.cell? ⟨w.heap.size, 0, none⟩ = some (.slice (some ad) n c) ∧ W.cell? ⟨w.heap.size, 1, none⟩ = some (.slice B m d) ∧ W.cell? { block := (ad.add (p * 16)).block, off := (ad.add (p * 16)).off + 1 } = some (.int .i64 x.g) from
        ⟨(HBA.out.to hW).cell 0, (HBA.out.to hW).cell 1, (hn.to hW) 1 _ rfl⟩)
      have hpn : p < n := by have := (List.getElem?_eq_some_iff.1 hx).1; have := HL.out; omega
      obtain ⟨g', hg'⟩ : ∃ g', g' = r / 65536 := ⟨_, rfl⟩
      rw [← hg'] at HG hgn
      obtain ⟨xg, hxg⟩ : ∃ xg, xg = x.g := ⟨_, rfl⟩
      rw [← hxg] at HS hgn
      have hne : (xg == g') = false := by simp [hgn]
      have hne' : (xg != g') = true := by simp [hgn]
      clear hx hk hn hg' hxg hr hp hg
      go_enter Try.func11, Try.ntmps11
      go_wp2_with fail
      refine (HP.out _).mono ?_; rintro e w3 ⟨rfl, rfl⟩
      rw [← H1.out, ← H2.out]
      go_wp2_with fail
      go_cut [23] (fun t wx => t = .bool true ∧ Ext w2 wx)
      case first =>
        have s0 := fun q : Later w2 => (HS.out q.w q.ext).1
        have s1 := fun q : Later w2 => (HS.out q.w q.ext).2.1
        have s2 := fun q : Later w2 => (HS.out q.w q.ext).2.2
        refine wp_region_later w2 (Ext.refl _) (by kernel_rfl) (by kernel_rfl) ?_
        repeat (go_big_quiet_step (first
          | (go_at_call 25; exact later_call HT.out)
          | (go_at_call 26; exact later_same (fun W _ => HG.out W))))
        refine wpQuiet_nil ?_
        rintro _ ⟨q, rfl⟩
        go_wp2_with fail
        go_meet
        exact ⟨rfl, q.ext⟩
      case rest =>
        obtain ⟨rfl, hx⟩ := hcut
        rename World => wq
        have hbq := HB.out.to hx
        have HX := Lib.hid (X2.out.step hx)
        go_wp2_with (first
          | (refine wpList_store_box (by rfl) _ _ (by rfl) _ (by rfl) (bare 0) (by rfl) _ hbq rfl ?_; intro wz hbz hoz))
        refine bodyPost_ret (results_nd rfl _ _ ⟨w.heap.size + 1, 0, none⟩ (bare 0) (by rfl) hbz.node) rfl ⟨rfl, ?_⟩
        exact hoz.new HX.out (by omega)
    · have HT := Lib.hid (fun W (hW : Ext w2 W) => taken_no A n c (.slice B m d) ns (p : Int) W (HR.out.to hW) (fun p' x e hx' => by
        have : p' = p := by omega
        subst this
        by_cases hk : x.k = 0
        · exact hk
        · exact absurd ⟨x, hx', hk⟩ hx))
      have HS := Lib.hid (fun W (hW : Ext w2 W) => show W.cell? ⟨w.heap.size, 0, none⟩ = some (.slice A n c) ∧ W.cell? ⟨w.heap.size, 1, none⟩ = some (.slice B m d) from
        ⟨(HBA.out.to hW).cell 0, (HBA.out.to hW).cell 1⟩)
      clear hg
      go_enter Try.func11, Try.ntmps11
      go_wp2_with fail
      refine (HP.out _).mono ?_; rintro e w3 ⟨rfl, rfl⟩
      rw [← H1.out, ← H2.out]
      go_wp2_with fail
      go_cut [23] (fun t wx => t = .bool true ∧ Ext w2 wx)
      case first =>
        have s0 := fun q : Later w2 => (HS.out q.w q.ext).1
        have s1 := fun q : Later w2 => (HS.out q.w q.ext).2
        refine wp_region_later w2 (Ext.refl _) (by kernel_rfl) (by kernel_rfl) ?_
        repeat (go_big_quiet_step (first
          | (go_at_call 25; exact later_call HT.out)))
        refine wpQuiet_nil ?_
        rintro _ ⟨q, rfl⟩
        go_wp2_with fail
        go_meet
        exact ⟨rfl, q.ext⟩
      case rest =>
        obtain ⟨rfl, hx⟩ := hcut
        rename World => wq
        have hbq := HB.out.to hx
        have HX := Lib.hid (X2.out.step hx)
        go_wp2_with (first
          | (refine wpList_store_box (by rfl) _ _ (by rfl) _ (by rfl) (bare 0) (by rfl) _ hbq rfl ?_; intro wz hbz hoz))
        refine bodyPost_ret (results_nd rfl _ _ ⟨w.heap.size + 1, 0, none⟩ (bare 0) (by rfl) hbz.node) rfl ⟨rfl, ?_⟩
        exact hoz.new HX.out (by omega)
  · have HP := Lib.hid (fun W => Place_no r W h0 h1 hr)
    obtain ⟨y, hy⟩ : ∃ y : Int, y = -1 := ⟨_, rfl⟩
    rw [← hy] at HP
    have HT := Lib.hid (fun W (hW : Ext w2 W) => taken_no A n c (.slice B m d) ns y W (HR.out.to hW) (fun p x e => by omega))
    clear hy
    have HS := Lib.hid (fun W (hW : Ext w2 W) => show W.cell? ⟨w.heap.size, 0, none⟩ = some (.slice A n c) ∧ W.cell? ⟨w.heap.size, 1, none⟩ = some (.slice B m d) from
      ⟨(HBA.out.to hW).cell 0, (HBA.out.to hW).cell 1⟩)
    clear hg
    go_enter Try.func11, Try.ntmps11
    go_wp2_with fail
    refine (HP.out _).mono ?_; rintro e w3 ⟨rfl, rfl⟩
    rw [← H1.out, ← H2.out]
    go_wp2_with fail
    go_cut [23] (fun t wx => t = .bool true ∧ Ext w2 wx)
    case first =>
      have s0 := fun q : Later w2 => (HS.out q.w q.ext).1
      have s1 := fun q : Later w2 => (HS.out q.w q.ext).2
      refine wp_region_later w2 (Ext.refl _) (by kernel_rfl) (by kernel_rfl) ?_
      repeat (go_big_quiet_step (first
        | (go_at_call 25; exact later_call HT.out)))
      refine wpQuiet_nil ?_
      rintro _ ⟨q, rfl⟩
      go_wp2_with fail
      go_meet
      exact ⟨rfl, q.ext⟩
    case rest =>
      obtain ⟨rfl, hx⟩ := hcut
      rename World => wq
      have hbq := HB.out.to hx
      have HX := Lib.hid (X2.out.step hx)
      go_wp2_with (first
        | (refine wpList_store_box (by rfl) _ _ (by rfl) _ (by rfl) (bare 0) (by rfl) _ hbq rfl ?_; intro wz hbz hoz))
      refine bodyPost_ret (results_nd rfl _ _ ⟨w.heap.size + 1, 0, none⟩ (bare 0) (by rfl) hbz.node) rfl ⟨rfl, ?_⟩
      exact hoz.new HX.out (by omega)

end Go.Proofs.Ytmfpgbiicncpcaa
