/-
  The document's own step (ref.Step), walked: instructions of kind 1, 2 and 3, where the word is there.
-/
import Derived.Test.YteiabmbfjfaboaaRefStep0
set_option linter.unusedVariables false
set_option linter.unusedSimpArgs false
namespace Go.Proofs.Yteiabmbfjfaboaa
open Go.RowKit


set_option maxRecDepth 100000 in
set_option maxHeartbeats 1000000 in
theorem ref1_0 (ad : Addr) (c : Nat) (ws : List Int) (pd : Addr) (d : Nat) (prog : List Ins) (i : Nat) (rs : Nat → Int) (took : Int) (x : Ins) (w : World) (h : Rd w 1 (some ad) 64 (Us ws)) (hp : Prg w (some pd) prog) (hget : prog[i]? = some x) (hl : i < prog.length) (hl64 : prog.length ≤ 64) (ht0 : 0 ≤ took) (ht1 : took < 1099511627776) (j : Nat) (hj : j < 64) (hi : x.i = j) (hk : x.k = 1) (hr : x.r = 0) (fin : Bool) (hfin : ((((i : Int) + 1) : Int) == (prog.length : Int)) = fin) :
    Calls Try.prog 17 #[.slice (some ad) 64 c, .agg #[.slice (some pd) prog.length d, .int .i64 i, .int .u64 (rs 0), .int .u64 (rs 1), .int .u64 (rs 2), .int .u64 (rs 3), .bool false, .int .i64 took]] w fun e w' => ∃ A' c',
      e = .returned (.agg #[.slice A' 64 c', .slice (some pd) prog.length d, .int .i64 (bif fin then (i : Int) else ((i : Int) + 1)), .int .u64 ((upd rs 0 (ith ws j)) 0), .int .u64 ((upd rs 0 (ith ws j)) 1), .int .u64 ((upd rs 0 (ith ws j)) 2), .int .u64 ((upd rs 0 (ith ws j)) 3), .bool fin, .int .i64 (took + 1)]) ∧ Rd w' 1 A' 64 (Us ws) ∧ Ext w w' ∧ ∀ q, A' = some q → q = ad ∨ w.heap.size ≤ q.block := by
  obtain ⟨ad', hpd, g0, g1, g2, g3, g4⟩ := hp.at hget
  obtain rfl : pd = ad' := by injection hpd
  clear hpd
  have b0 : (pd.add (i * 5)).block < w.heap.size := World.block_lt_of_cell? w _ g0
  have b1 : (pd.add (i * 5)).block < w.heap.size + 1 := by omega
  have m0 := h.u64 hj
  have hlt : ad.block < w.heap.size := by
    have := World.block_lt_of_cell? w _ m0
    rwa [addr_block] at this
  have a0 : (ad.add j).block < w.heap.size := World.block_lt_of_cell? w _ m0
  have a1 : (ad.add j).block < w.heap.size + 1 := by omega
  have a2 : (ad.add j).block < w.heap.size + 1 + 1 := by omega
  have ht' : (took == 1099511627776) = false := by simp; omega
  clear hget
  have HF := Lib.hid hfin
  clear hfin
  go_enter Try.func17, Try.ntmps17
  go_wp2_with fail
  · obtain rfl : fin = true := HF.out.symm.trans (by assumption)
    refine bodyPost_ret (v := .agg #[.slice (some ad) 64 c, .slice (some pd) prog.length d, .int .i64 i, .int .u64 ((upd rs 0 (ith ws j)) 0), .int .u64 ((upd rs 0 (ith ws j)) 1), .int .u64 ((upd rs 0 (ith ws j)) 2), .int .u64 ((upd rs 0 (ith ws j)) 3), .bool true, .int .i64 (took + 1)]) (by simp [results, Try.results17, go_sem, upd, *]) rfl ?_
    refine ⟨_, _, rfl, ?_, ?_, fun q hq => ?_⟩
    · refine h.to ?_
      repeat (first | with_reducible refine Ext.drew ?_ | with_reducible refine Ext.new ?_ _)
      exact Ext.refl w
    · repeat (first | with_reducible refine Ext.drew ?_ | with_reducible refine Ext.new ?_ _)
      exact Ext.refl w
    · exact .inl (Option.some.inj hq).symm

  · obtain rfl : fin = false := HF.out.symm.trans (by assumption)
    refine bodyPost_ret (v := .agg #[.slice (some ad) 64 c, .slice (some pd) prog.length d, .int .i64 ((i : Int) + 1), .int .u64 ((upd rs 0 (ith ws j)) 0), .int .u64 ((upd rs 0 (ith ws j)) 1), .int .u64 ((upd rs 0 (ith ws j)) 2), .int .u64 ((upd rs 0 (ith ws j)) 3), .bool false, .int .i64 (took + 1)]) (by simp [results, Try.results17, go_sem, upd, *]) rfl ?_
    refine ⟨_, _, rfl, ?_, ?_, fun q hq => ?_⟩
    · refine h.to ?_
      repeat (first | with_reducible refine Ext.drew ?_ | with_reducible refine Ext.new ?_ _)
      exact Ext.refl w
    · repeat (first | with_reducible refine Ext.drew ?_ | with_reducible refine Ext.new ?_ _)
      exact Ext.refl w
    · exact .inl (Option.some.inj hq).symm


set_option maxRecDepth 100000 in
set_option maxHeartbeats 1000000 in
theorem ref1_1 (ad : Addr) (c : Nat) (ws : List Int) (pd : Addr) (d : Nat) (prog : List Ins) (i : Nat) (rs : Nat → Int) (took : Int) (x : Ins) (w : World) (h : Rd w 1 (some ad) 64 (Us ws)) (hp : Prg w (some pd) prog) (hget : prog[i]? = some x) (hl : i < prog.length) (hl64 : prog.length ≤ 64) (ht0 : 0 ≤ took) (ht1 : took < 1099511627776) (j : Nat) (hj : j < 64) (hi : x.i = j) (hk : x.k = 1) (hr : x.r = 1) (fin : Bool) (hfin : ((((i : Int) + 1) : Int) == (prog.length : Int)) = fin) :
    Calls Try.prog 17 #[.slice (some ad) 64 c, .agg #[.slice (some pd) prog.length d, .int .i64 i, .int .u64 (rs 0), .int .u64 (rs 1), .int .u64 (rs 2), .int .u64 (rs 3), .bool false, .int .i64 took]] w fun e w' => ∃ A' c',
      e = .returned (.agg #[.slice A' 64 c', .slice (some pd) prog.length d, .int .i64 (bif fin then (i : Int) else ((i : Int) + 1)), .int .u64 ((upd rs 1 (ith ws j)) 0), .int .u64 ((upd rs 1 (ith ws j)) 1), .int .u64 ((upd rs 1 (ith ws j)) 2), .int .u64 ((upd rs 1 (ith ws j)) 3), .bool fin, .int .i64 (took + 1)]) ∧ Rd w' 1 A' 64 (Us ws) ∧ Ext w w' ∧ ∀ q, A' = some q → q = ad ∨ w.heap.size ≤ q.block := by
  obtain ⟨ad', hpd, g0, g1, g2, g3, g4⟩ := hp.at hget
  obtain rfl : pd = ad' := by injection hpd
  clear hpd
  have b0 : (pd.add (i * 5)).block < w.heap.size := World.block_lt_of_cell? w _ g0
  have b1 : (pd.add (i * 5)).block < w.heap.size + 1 := by omega
  have m0 := h.u64 hj
  have hlt : ad.block < w.heap.size := by
    have := World.block_lt_of_cell? w _ m0
    rwa [addr_block] at this
  have a0 : (ad.add j).block < w.heap.size := World.block_lt_of_cell? w _ m0
  have a1 : (ad.add j).block < w.heap.size + 1 := by omega
  have a2 : (ad.add j).block < w.heap.size + 1 + 1 := by omega
  have ht' : (took == 1099511627776) = false := by simp; omega
  clear hget
  have HF := Lib.hid hfin
  clear hfin
  go_enter Try.func17, Try.ntmps17
  go_wp2_with fail
  · obtain rfl : fin = true := HF.out.symm.trans (by assumption)
    refine bodyPost_ret (v := .agg #[.slice (some ad) 64 c, .slice (some pd) prog.length d, .int .i64 i, .int .u64 ((upd rs 1 (ith ws j)) 0), .int .u64 ((upd rs 1 (ith ws j)) 1), .int .u64 ((upd rs 1 (ith ws j)) 2), .int .u64 ((upd rs 1 (ith ws j)) 3), .bool true, .int .i64 (took + 1)]) (by simp [results, Try.results17, go_sem, upd, *]) rfl ?_
    refine ⟨_, _, rfl, ?_, ?_, fun q hq => ?_⟩
    · refine h.to ?_
      repeat (first | with_reducible refine Ext.drew ?_ | with_reducible refine Ext.new ?_ _)
      exact Ext.refl w
    · repeat (first | with_reducible refine Ext.drew ?_ | with_reducible refine Ext.new ?_ _)
      exact Ext.refl w
    · exact .inl (Option.some.inj hq).symm

  · obtain rfl : fin = false := HF.out.symm.trans (by assumption)
    refine bodyPost_ret (v := .agg #[.slice (some ad) 64 c, .slice (some pd) prog.length d, .int .i64 ((i : Int) + 1), .int .u64 ((upd rs 1 (ith ws j)) 0), .int .u64 ((upd rs 1 (ith ws j)) 1), .int .u64 ((upd rs 1 (ith ws j)) 2), .int .u64 ((upd rs 1 (ith ws j)) 3), .bool false, .int .i64 (took + 1)]) (by simp [results, Try.results17, go_sem, upd, *]) rfl ?_
    refine ⟨_, _, rfl, ?_, ?_, fun q hq => ?_⟩
    · refine h.to ?_
      repeat (first | with_reducible refine Ext.drew ?_ | with_reducible refine Ext.new ?_ _)
      exact Ext.refl w
    · repeat (first | with_reducible refine Ext.drew ?_ | with_reducible refine Ext.new ?_ _)
      exact Ext.refl w
    · exact .inl (Option.some.inj hq).symm


set_option maxRecDepth 100000 in
set_option maxHeartbeats 1000000 in
theorem ref1_2 (ad : Addr) (c : Nat) (ws : List Int) (pd : Addr) (d : Nat) (prog : List Ins) (i : Nat) (rs : Nat → Int) (took : Int) (x : Ins) (w : World) (h : Rd w 1 (some ad) 64 (Us ws)) (hp : Prg w (some pd) prog) (hget : prog[i]? = some x) (hl : i < prog.length) (hl64 : prog.length ≤ 64) (ht0 : 0 ≤ took) (ht1 : took < 1099511627776) (j : Nat) (hj : j < 64) (hi : x.i = j) (hk : x.k = 1) (hr : x.r = 2) (fin : Bool) (hfin : ((((i : Int) + 1) : Int) == (prog.length : Int)) = fin) :
    Calls Try.prog 17 #[.slice (some ad) 64 c, .agg #[.slice (some pd) prog.length d, .int .i64 i, .int .u64 (rs 0), .int .u64 (rs 1), .int .u64 (rs 2), .int .u64 (rs 3), .bool false, .int .i64 took]] w fun e w' => ∃ A' c',
      e = .returned (.agg #[.slice A' 64 c', .slice (some pd) prog.length d, .int .i64 (bif fin then (i : Int) else ((i : Int) + 1)), .int .u64 ((upd rs 2 (ith ws j)) 0), .int .u64 ((upd rs 2 (ith ws j)) 1), .int .u64 ((upd rs 2 (ith ws j)) 2), .int .u64 ((upd rs 2 (ith ws j)) 3), .bool fin, .int .i64 (took + 1)]) ∧ Rd w' 1 A' 64 (Us ws) ∧ Ext w w' ∧ ∀ q, A' = some q → q = ad ∨ w.heap.size ≤ q.block := by
  obtain ⟨ad', hpd, g0, g1, g2, g3, g4⟩ := hp.at hget
  obtain rfl : pd = ad' := by injection hpd
  clear hpd
  have b0 : (pd.add (i * 5)).block < w.heap.size := World.block_lt_of_cell? w _ g0
  have b1 : (pd.add (i * 5)).block < w.heap.size + 1 := by omega
  have m0 := h.u64 hj
  have hlt : ad.block < w.heap.size := by
    have := World.block_lt_of_cell? w _ m0
    rwa [addr_block] at this
  have a0 : (ad.add j).block < w.heap.size := World.block_lt_of_cell? w _ m0
  have a1 : (ad.add j).block < w.heap.size + 1 := by omega
  have a2 : (ad.add j).block < w.heap.size + 1 + 1 := by omega
  have ht' : (took == 1099511627776) = false := by simp; omega
  clear hget
  have HF := Lib.hid hfin
  clear hfin
  go_enter Try.func17, Try.ntmps17
  go_wp2_with fail
  · obtain rfl : fin = true := HF.out.symm.trans (by assumption)
    refine bodyPost_ret (v := .agg #[.slice (some ad) 64 c, .slice (some pd) prog.length d, .int .i64 i, .int .u64 ((upd rs 2 (ith ws j)) 0), .int .u64 ((upd rs 2 (ith ws j)) 1), .int .u64 ((upd rs 2 (ith ws j)) 2), .int .u64 ((upd rs 2 (ith ws j)) 3), .bool true, .int .i64 (took + 1)]) (by simp [results, Try.results17, go_sem, upd, *]) rfl ?_
    refine ⟨_, _, rfl, ?_, ?_, fun q hq => ?_⟩
    · refine h.to ?_
      repeat (first | with_reducible refine Ext.drew ?_ | with_reducible refine Ext.new ?_ _)
      exact Ext.refl w
    · repeat (first | with_reducible refine Ext.drew ?_ | with_reducible refine Ext.new ?_ _)
      exact Ext.refl w
    · exact .inl (Option.some.inj hq).symm

  · obtain rfl : fin = false := HF.out.symm.trans (by assumption)
    refine bodyPost_ret (v := .agg #[.slice (some ad) 64 c, .slice (some pd) prog.length d, .int .i64 ((i : Int) + 1), .int .u64 ((upd rs 2 (ith ws j)) 0), .int .u64 ((upd rs 2 (ith ws j)) 1), .int .u64 ((upd rs 2 (ith ws j)) 2), .int .u64 ((upd rs 2 (ith ws j)) 3), .bool false, .int .i64 (took + 1)]) (by simp [results, Try.results17, go_sem, upd, *]) rfl ?_
    refine ⟨_, _, rfl, ?_, ?_, fun q hq => ?_⟩
    · refine h.to ?_
      repeat (first | with_reducible refine Ext.drew ?_ | with_reducible refine Ext.new ?_ _)
      exact Ext.refl w
    · repeat (first | with_reducible refine Ext.drew ?_ | with_reducible refine Ext.new ?_ _)
      exact Ext.refl w
    · exact .inl (Option.some.inj hq).symm


set_option maxRecDepth 100000 in
set_option maxHeartbeats 1000000 in
theorem ref1_3 (ad : Addr) (c : Nat) (ws : List Int) (pd : Addr) (d : Nat) (prog : List Ins) (i : Nat) (rs : Nat → Int) (took : Int) (x : Ins) (w : World) (h : Rd w 1 (some ad) 64 (Us ws)) (hp : Prg w (some pd) prog) (hget : prog[i]? = some x) (hl : i < prog.length) (hl64 : prog.length ≤ 64) (ht0 : 0 ≤ took) (ht1 : took < 1099511627776) (j : Nat) (hj : j < 64) (hi : x.i = j) (hk : x.k = 1) (hr : x.r = 3) (fin : Bool) (hfin : ((((i : Int) + 1) : Int) == (prog.length : Int)) = fin) :
    Calls Try.prog 17 #[.slice (some ad) 64 c, .agg #[.slice (some pd) prog.length d, .int .i64 i, .int .u64 (rs 0), .int .u64 (rs 1), .int .u64 (rs 2), .int .u64 (rs 3), .bool false, .int .i64 took]] w fun e w' => ∃ A' c',
      e = .returned (.agg #[.slice A' 64 c', .slice (some pd) prog.length d, .int .i64 (bif fin then (i : Int) else ((i : Int) + 1)), .int .u64 ((upd rs 3 (ith ws j)) 0), .int .u64 ((upd rs 3 (ith ws j)) 1), .int .u64 ((upd rs 3 (ith ws j)) 2), .int .u64 ((upd rs 3 (ith ws j)) 3), .bool fin, .int .i64 (took + 1)]) ∧ Rd w' 1 A' 64 (Us ws) ∧ Ext w w' ∧ ∀ q, A' = some q → q = ad ∨ w.heap.size ≤ q.block := by
  obtain ⟨ad', hpd, g0, g1, g2, g3, g4⟩ := hp.at hget
  obtain rfl : pd = ad' := by injection hpd
  clear hpd
  have b0 : (pd.add (i * 5)).block < w.heap.size := World.block_lt_of_cell? w _ g0
  have b1 : (pd.add (i * 5)).block < w.heap.size + 1 := by omega
  have m0 := h.u64 hj
  have hlt : ad.block < w.heap.size := by
    have := World.block_lt_of_cell? w _ m0
    rwa [addr_block] at this
  have a0 : (ad.add j).block < w.heap.size := World.block_lt_of_cell? w _ m0
  have a1 : (ad.add j).block < w.heap.size + 1 := by omega
  have a2 : (ad.add j).block < w.heap.size + 1 + 1 := by omega
  have ht' : (took == 1099511627776) = false := by simp; omega
  clear hget
  have HF := Lib.hid hfin
  clear hfin
  go_enter Try.func17, Try.ntmps17
  go_wp2_with fail
  · obtain rfl : fin = true := HF.out.symm.trans (by assumption)
    refine bodyPost_ret (v := .agg #[.slice (some ad) 64 c, .slice (some pd) prog.length d, .int .i64 i, .int .u64 ((upd rs 3 (ith ws j)) 0), .int .u64 ((upd rs 3 (ith ws j)) 1), .int .u64 ((upd rs 3 (ith ws j)) 2), .int .u64 ((upd rs 3 (ith ws j)) 3), .bool true, .int .i64 (took + 1)]) (by simp [results, Try.results17, go_sem, upd, *]) rfl ?_
    refine ⟨_, _, rfl, ?_, ?_, fun q hq => ?_⟩
    · refine h.to ?_
      repeat (first | with_reducible refine Ext.drew ?_ | with_reducible refine Ext.new ?_ _)
      exact Ext.refl w
    · repeat (first | with_reducible refine Ext.drew ?_ | with_reducible refine Ext.new ?_ _)
      exact Ext.refl w
    · exact .inl (Option.some.inj hq).symm

  · obtain rfl : fin = false := HF.out.symm.trans (by assumption)
    refine bodyPost_ret (v := .agg #[.slice (some ad) 64 c, .slice (some pd) prog.length d, .int .i64 ((i : Int) + 1), .int .u64 ((upd rs 3 (ith ws j)) 0), .int .u64 ((upd rs 3 (ith ws j)) 1), .int .u64 ((upd rs 3 (ith ws j)) 2), .int .u64 ((upd rs 3 (ith ws j)) 3), .bool false, .int .i64 (took + 1)]) (by simp [results, Try.results17, go_sem, upd, *]) rfl ?_
    refine ⟨_, _, rfl, ?_, ?_, fun q hq => ?_⟩
    · refine h.to ?_
      repeat (first | with_reducible refine Ext.drew ?_ | with_reducible refine Ext.new ?_ _)
      exact Ext.refl w
    · repeat (first | with_reducible refine Ext.drew ?_ | with_reducible refine Ext.new ?_ _)
      exact Ext.refl w
    · exact .inl (Option.some.inj hq).symm


set_option maxRecDepth 100000 in
set_option maxHeartbeats 1000000 in
theorem ref2_0 (ad : Addr) (c : Nat) (ws : List Int) (pd : Addr) (d : Nat) (prog : List Ins) (i : Nat) (rs : Nat → Int) (took : Int) (x : Ins) (w : World) (h : Rd w 1 (some ad) 64 (Us ws)) (hp : Prg w (some pd) prog) (hget : prog[i]? = some x) (hl : i < prog.length) (hl64 : prog.length ≤ 64) (ht0 : 0 ≤ took) (ht1 : took < 1099511627776) (j : Nat) (hj : j < 64) (hi : x.i = j) (hk : x.k = 2) (hr : x.r = 0) (fin : Bool) (hfin : ((((i : Int) + 1) : Int) == (prog.length : Int)) = fin) :
    Calls Try.prog 17 #[.slice (some ad) 64 c, .agg #[.slice (some pd) prog.length d, .int .i64 i, .int .u64 (rs 0), .int .u64 (rs 1), .int .u64 (rs 2), .int .u64 (rs 3), .bool false, .int .i64 took]] w fun e w' => ∃ A' c',
      e = .returned (.agg #[.slice A' 64 c', .slice (some pd) prog.length d, .int .i64 (bif fin then (i : Int) else ((i : Int) + 1)), .int .u64 ((rs) 0), .int .u64 ((rs) 1), .int .u64 ((rs) 2), .int .u64 ((rs) 3), .bool fin, .int .i64 (took + 1)]) ∧ Rd w' 1 A' 64 (Us (ws.set j (rs 0))) ∧ Ext w w' ∧ ∀ q, A' = some q → q = ad ∨ w.heap.size ≤ q.block := by
  obtain ⟨ad', hpd, g0, g1, g2, g3, g4⟩ := hp.at hget
  obtain rfl : pd = ad' := by injection hpd
  clear hpd
  have b0 : (pd.add (i * 5)).block < w.heap.size := World.block_lt_of_cell? w _ g0
  have b1 : (pd.add (i * 5)).block < w.heap.size + 1 := by omega
  have m0 := h.u64 hj
  have hlt : ad.block < w.heap.size := by
    have := World.block_lt_of_cell? w _ m0
    rwa [addr_block] at this
  have a0 : (ad.add j).block < w.heap.size := World.block_lt_of_cell? w _ m0
  have a1 : (ad.add j).block < w.heap.size + 1 := by omega
  have a2 : (ad.add j).block < w.heap.size + 1 + 1 := by omega
  have ht' : (took == 1099511627776) = false := by simp; omega
  clear hget
  have HF := Lib.hid hfin
  clear hfin
  go_enter Try.func17, Try.ntmps17
  go_wp2_with fail
  refine (with_any (some ad) 64 c ws j (rs 0) _ (h.to ((((Ext.refl w).new _).new _).new _)) (by omega)).mono ?_; rintro e w2 ⟨A2, c2, rfl, hr2, hf2, hx2⟩
  have B3 := ((((Bx.new w _ _).alloc _).alloc _)).to hx2
  have B4 := (((Bx.new (w.alloc _) _ _).alloc _)).to hx2
  have B5 := (Bx.new ((w.alloc _).alloc _) _ _).to hx2
  simp at B4 B5
  have E2 := ((((Ext.refl w).new _).new _).new _).step hx2
  clear hx2 b0 b1 g0 g1 g2 g3 g4 m0 a0 a1 a2
  have k0 := B3.cell; have k1 := B4.cell; have k2 := B5.cell; have f0 := B3.free; have f1 := B4.free; have z0 := B3.lt; have z1 := B4.lt; have z2 := B5.lt
  replace hf2 : ∀ q, A2 = some q → w.heap.size + 3 ≤ q.block := fun q hq => by
    have := hf2 q hq
    simp at this
    omega
  go_wp2_with fail
  · obtain rfl : fin = true := HF.out.symm.trans (by assumption)
    refine bodyPost_ret (v := .agg #[.slice A2 64 c2, .slice (some pd) prog.length d, .int .i64 i, .int .u64 ((rs) 0), .int .u64 ((rs) 1), .int .u64 ((rs) 2), .int .u64 ((rs) 3), .bool true, .int .i64 (took + 1)]) (by simp [results, Try.results17, go_sem, upd, *]) rfl ?_
    refine ⟨_, _, rfl, ?_, ?_, fun q hq => ?_⟩
    · repeat (first | with_reducible refine Rd.drew ?_ | with_reducible refine Rd.past hf2 (by omega) ?_)
      exact hr2
    · repeat (first | with_reducible refine Ext.drew ?_ | with_reducible refine Ext.set ?_ _ (by omega))
      exact E2
    · exact .inr (by have := hf2 q hq; omega)

  · obtain rfl : fin = false := HF.out.symm.trans (by assumption)
    refine bodyPost_ret (v := .agg #[.slice A2 64 c2, .slice (some pd) prog.length d, .int .i64 ((i : Int) + 1), .int .u64 ((rs) 0), .int .u64 ((rs) 1), .int .u64 ((rs) 2), .int .u64 ((rs) 3), .bool false, .int .i64 (took + 1)]) (by simp [results, Try.results17, go_sem, upd, *]) rfl ?_
    refine ⟨_, _, rfl, ?_, ?_, fun q hq => ?_⟩
    · repeat (first | with_reducible refine Rd.drew ?_ | with_reducible refine Rd.past hf2 (by omega) ?_)
      exact hr2
    · repeat (first | with_reducible refine Ext.drew ?_ | with_reducible refine Ext.set ?_ _ (by omega))
      exact E2
    · exact .inr (by have := hf2 q hq; omega)


set_option maxRecDepth 100000 in
set_option maxHeartbeats 1000000 in
theorem ref2_1 (ad : Addr) (c : Nat) (ws : List Int) (pd : Addr) (d : Nat) (prog : List Ins) (i : Nat) (rs : Nat → Int) (took : Int) (x : Ins) (w : World) (h : Rd w 1 (some ad) 64 (Us ws)) (hp : Prg w (some pd) prog) (hget : prog[i]? = some x) (hl : i < prog.length) (hl64 : prog.length ≤ 64) (ht0 : 0 ≤ took) (ht1 : took < 1099511627776) (j : Nat) (hj : j < 64) (hi : x.i = j) (hk : x.k = 2) (hr : x.r = 1) (fin : Bool) (hfin : ((((i : Int) + 1) : Int) == (prog.length : Int)) = fin) :
    Calls Try.prog 17 #[.slice (some ad) 64 c, .agg #[.slice (some pd) prog.length d, .int .i64 i, .int .u64 (rs 0), .int .u64 (rs 1), .int .u64 (rs 2), .int .u64 (rs 3), .bool false, .int .i64 took]] w fun e w' => ∃ A' c',
      e = .returned (.agg #[.slice A' 64 c', .slice (some pd) prog.length d, .int .i64 (bif fin then (i : Int) else ((i : Int) + 1)), .int .u64 ((rs) 0), .int .u64 ((rs) 1), .int .u64 ((rs) 2), .int .u64 ((rs) 3), .bool fin, .int .i64 (took + 1)]) ∧ Rd w' 1 A' 64 (Us (ws.set j (rs 1))) ∧ Ext w w' ∧ ∀ q, A' = some q → q = ad ∨ w.heap.size ≤ q.block := by
  obtain ⟨ad', hpd, g0, g1, g2, g3, g4⟩ := hp.at hget
  obtain rfl : pd = ad' := by injection hpd
  clear hpd
  have b0 : (pd.add (i * 5)).block < w.heap.size := World.block_lt_of_cell? w _ g0
  have b1 : (pd.add (i * 5)).block < w.heap.size + 1 := by omega
  have m0 := h.u64 hj
  have hlt : ad.block < w.heap.size := by
    have := World.block_lt_of_cell? w _ m0
    rwa [addr_block] at this
  have a0 : (ad.add j).block < w.heap.size := World.block_lt_of_cell? w _ m0
  have a1 : (ad.add j).block < w.heap.size + 1 := by omega
  have a2 : (ad.add j).block < w.heap.size + 1 + 1 := by omega
  have ht' : (took == 1099511627776) = false := by simp; omega
  clear hget
  have HF := Lib.hid hfin
  clear hfin
  go_enter Try.func17, Try.ntmps17
  go_wp2_with fail
  refine (with_any (some ad) 64 c ws j (rs 1) _ (h.to ((((Ext.refl w).new _).new _).new _)) (by omega)).mono ?_; rintro e w2 ⟨A2, c2, rfl, hr2, hf2, hx2⟩
  have B3 := ((((Bx.new w _ _).alloc _).alloc _)).to hx2
  have B4 := (((Bx.new (w.alloc _) _ _).alloc _)).to hx2
  have B5 := (Bx.new ((w.alloc _).alloc _) _ _).to hx2
  simp at B4 B5
  have E2 := ((((Ext.refl w).new _).new _).new _).step hx2
  clear hx2 b0 b1 g0 g1 g2 g3 g4 m0 a0 a1 a2
  have k0 := B3.cell; have k1 := B4.cell; have k2 := B5.cell; have f0 := B3.free; have f1 := B4.free; have z0 := B3.lt; have z1 := B4.lt; have z2 := B5.lt
  replace hf2 : ∀ q, A2 = some q → w.heap.size + 3 ≤ q.block := fun q hq => by
    have := hf2 q hq
    simp at this
    omega
  go_wp2_with fail
  · obtain rfl : fin = true := HF.out.symm.trans (by assumption)
    refine bodyPost_ret (v := .agg #[.slice A2 64 c2, .slice (some pd) prog.length d, .int .i64 i, .int .u64 ((rs) 0), .int .u64 ((rs) 1), .int .u64 ((rs) 2), .int .u64 ((rs) 3), .bool true, .int .i64 (took + 1)]) (by simp [results, Try.results17, go_sem, upd, *]) rfl ?_
    refine ⟨_, _, rfl, ?_, ?_, fun q hq => ?_⟩
    · repeat (first | with_reducible refine Rd.drew ?_ | with_reducible refine Rd.past hf2 (by omega) ?_)
      exact hr2
    · repeat (first | with_reducible refine Ext.drew ?_ | with_reducible refine Ext.set ?_ _ (by omega))
      exact E2
    · exact .inr (by have := hf2 q hq; omega)

  · obtain rfl : fin = false := HF.out.symm.trans (by assumption)
    refine bodyPost_ret (v := .agg #[.slice A2 64 c2, .slice (some pd) prog.length d, .int .i64 ((i : Int) + 1), .int .u64 ((rs) 0), .int .u64 ((rs) 1), .int .u64 ((rs) 2), .int .u64 ((rs) 3), .bool false, .int .i64 (took + 1)]) (by simp [results, Try.results17, go_sem, upd, *]) rfl ?_
    refine ⟨_, _, rfl, ?_, ?_, fun q hq => ?_⟩
    · repeat (first | with_reducible refine Rd.drew ?_ | with_reducible refine Rd.past hf2 (by omega) ?_)
      exact hr2
    · repeat (first | with_reducible refine Ext.drew ?_ | with_reducible refine Ext.set ?_ _ (by omega))
      exact E2
    · exact .inr (by have := hf2 q hq; omega)


set_option maxRecDepth 100000 in
set_option maxHeartbeats 1000000 in
theorem ref2_2 (ad : Addr) (c : Nat) (ws : List Int) (pd : Addr) (d : Nat) (prog : List Ins) (i : Nat) (rs : Nat → Int) (took : Int) (x : Ins) (w : World) (h : Rd w 1 (some ad) 64 (Us ws)) (hp : Prg w (some pd) prog) (hget : prog[i]? = some x) (hl : i < prog.length) (hl64 : prog.length ≤ 64) (ht0 : 0 ≤ took) (ht1 : took < 1099511627776) (j : Nat) (hj : j < 64) (hi : x.i = j) (hk : x.k = 2) (hr : x.r = 2) (fin : Bool) (hfin : ((((i : Int) + 1) : Int) == (prog.length : Int)) = fin) :
    Calls Try.prog 17 #[.slice (some ad) 64 c, .agg #[.slice (some pd) prog.length d, .int .i64 i, .int .u64 (rs 0), .int .u64 (rs 1), .int .u64 (rs 2), .int .u64 (rs 3), .bool false, .int .i64 took]] w fun e w' => ∃ A' c',
      e = .returned (.agg #[.slice A' 64 c', .slice (some pd) prog.length d, .int .i64 (bif fin then (i : Int) else ((i : Int) + 1)), .int .u64 ((rs) 0), .int .u64 ((rs) 1), .int .u64 ((rs) 2), .int .u64 ((rs) 3), .bool fin, .int .i64 (took + 1)]) ∧ Rd w' 1 A' 64 (Us (ws.set j (rs 2))) ∧ Ext w w' ∧ ∀ q, A' = some q → q = ad ∨ w.heap.size ≤ q.block := by
  obtain ⟨ad', hpd, g0, g1, g2, g3, g4⟩ := hp.at hget
  obtain rfl : pd = ad' := by injection hpd
  clear hpd
  have b0 : (pd.add (i * 5)).block < w.heap.size := World.block_lt_of_cell? w _ g0
  have b1 : (pd.add (i * 5)).block < w.heap.size + 1 := by omega
  have m0 := h.u64 hj
  have hlt : ad.block < w.heap.size := by
    have := World.block_lt_of_cell? w _ m0
    rwa [addr_block] at this
  have a0 : (ad.add j).block < w.heap.size := World.block_lt_of_cell? w _ m0
  have a1 : (ad.add j).block < w.heap.size + 1 := by omega
  have a2 : (ad.add j).block < w.heap.size + 1 + 1 := by omega
  have ht' : (took == 1099511627776) = false := by simp; omega
  clear hget
  have HF := Lib.hid hfin
  clear hfin
  go_enter Try.func17, Try.ntmps17
  go_wp2_with fail
  refine (with_any (some ad) 64 c ws j (rs 2) _ (h.to ((((Ext.refl w).new _).new _).new _)) (by omega)).mono ?_; rintro e w2 ⟨A2, c2, rfl, hr2, hf2, hx2⟩
  have B3 := ((((Bx.new w _ _).alloc _).alloc _)).to hx2
  have B4 := (((Bx.new (w.alloc _) _ _).alloc _)).to hx2
  have B5 := (Bx.new ((w.alloc _).alloc _) _ _).to hx2
  simp at B4 B5
  have E2 := ((((Ext.refl w).new _).new _).new _).step hx2
  clear hx2 b0 b1 g0 g1 g2 g3 g4 m0 a0 a1 a2
  have k0 := B3.cell; have k1 := B4.cell; have k2 := B5.cell; have f0 := B3.free; have f1 := B4.free; have z0 := B3.lt; have z1 := B4.lt; have z2 := B5.lt
  replace hf2 : ∀ q, A2 = some q → w.heap.size + 3 ≤ q.block := fun q hq => by
    have := hf2 q hq
    simp at this
    omega
  go_wp2_with fail
  · obtain rfl : fin = true := HF.out.symm.trans (by assumption)
    refine bodyPost_ret (v := .agg #[.slice A2 64 c2, .slice (some pd) prog.length d, .int .i64 i, .int .u64 ((rs) 0), .int .u64 ((rs) 1), .int .u64 ((rs) 2), .int .u64 ((rs) 3), .bool true, .int .i64 (took + 1)]) (by simp [results, Try.results17, go_sem, upd, *]) rfl ?_
    refine ⟨_, _, rfl, ?_, ?_, fun q hq => ?_⟩
    · repeat (first | with_reducible refine Rd.drew ?_ | with_reducible refine Rd.past hf2 (by omega) ?_)
      exact hr2
    · repeat (first | with_reducible refine Ext.drew ?_ | with_reducible refine Ext.set ?_ _ (by omega))
      exact E2
    · exact .inr (by have := hf2 q hq; omega)

  · obtain rfl : fin = false := HF.out.symm.trans (by assumption)
    refine bodyPost_ret (v := .agg #[.slice A2 64 c2, .slice (some pd) prog.length d, .int .i64 ((i : Int) + 1), .int .u64 ((rs) 0), .int .u64 ((rs) 1), .int .u64 ((rs) 2), .int .u64 ((rs) 3), .bool false, .int .i64 (took + 1)]) (by simp [results, Try.results17, go_sem, upd, *]) rfl ?_
    refine ⟨_, _, rfl, ?_, ?_, fun q hq => ?_⟩
    · repeat (first | with_reducible refine Rd.drew ?_ | with_reducible refine Rd.past hf2 (by omega) ?_)
      exact hr2
    · repeat (first | with_reducible refine Ext.drew ?_ | with_reducible refine Ext.set ?_ _ (by omega))
      exact E2
    · exact .inr (by have := hf2 q hq; omega)


set_option maxRecDepth 100000 in
set_option maxHeartbeats 1000000 in
theorem ref2_3 (ad : Addr) (c : Nat) (ws : List Int) (pd : Addr) (d : Nat) (prog : List Ins) (i : Nat) (rs : Nat → Int) (took : Int) (x : Ins) (w : World) (h : Rd w 1 (some ad) 64 (Us ws)) (hp : Prg w (some pd) prog) (hget : prog[i]? = some x) (hl : i < prog.length) (hl64 : prog.length ≤ 64) (ht0 : 0 ≤ took) (ht1 : took < 1099511627776) (j : Nat) (hj : j < 64) (hi : x.i = j) (hk : x.k = 2) (hr : x.r = 3) (fin : Bool) (hfin : ((((i : Int) + 1) : Int) == (prog.length : Int)) = fin) :
    Calls Try.prog 17 #[.slice (some ad) 64 c, .agg #[.slice (some pd) prog.length d, .int .i64 i, .int .u64 (rs 0), .int .u64 (rs 1), .int .u64 (rs 2), .int .u64 (rs 3), .bool false, .int .i64 took]] w fun e w' => ∃ A' c',
      e = .returned (.agg #[.slice A' 64 c', .slice (some pd) prog.length d, .int .i64 (bif fin then (i : Int) else ((i : Int) + 1)), .int .u64 ((rs) 0), .int .u64 ((rs) 1), .int .u64 ((rs) 2), .int .u64 ((rs) 3), .bool fin, .int .i64 (took + 1)]) ∧ Rd w' 1 A' 64 (Us (ws.set j (rs 3))) ∧ Ext w w' ∧ ∀ q, A' = some q → q = ad ∨ w.heap.size ≤ q.block := by
  obtain ⟨ad', hpd, g0, g1, g2, g3, g4⟩ := hp.at hget
  obtain rfl : pd = ad' := by injection hpd
  clear hpd
  have b0 : (pd.add (i * 5)).block < w.heap.size := World.block_lt_of_cell? w _ g0
  have b1 : (pd.add (i * 5)).block < w.heap.size + 1 := by omega
  have m0 := h.u64 hj
  have hlt : ad.block < w.heap.size := by
    have := World.block_lt_of_cell? w _ m0
    rwa [addr_block] at this
  have a0 : (ad.add j).block < w.heap.size := World.block_lt_of_cell? w _ m0
  have a1 : (ad.add j).block < w.heap.size + 1 := by omega
  have a2 : (ad.add j).block < w.heap.size + 1 + 1 := by omega
  have ht' : (took == 1099511627776) = false := by simp; omega
  clear hget
  have HF := Lib.hid hfin
  clear hfin
  go_enter Try.func17, Try.ntmps17
  go_wp2_with fail
  refine (with_any (some ad) 64 c ws j (rs 3) _ (h.to ((((Ext.refl w).new _).new _).new _)) (by omega)).mono ?_; rintro e w2 ⟨A2, c2, rfl, hr2, hf2, hx2⟩
  have B3 := ((((Bx.new w _ _).alloc _).alloc _)).to hx2
  have B4 := (((Bx.new (w.alloc _) _ _).alloc _)).to hx2
  have B5 := (Bx.new ((w.alloc _).alloc _) _ _).to hx2
  simp at B4 B5
  have E2 := ((((Ext.refl w).new _).new _).new _).step hx2
  clear hx2 b0 b1 g0 g1 g2 g3 g4 m0 a0 a1 a2
  have k0 := B3.cell; have k1 := B4.cell; have k2 := B5.cell; have f0 := B3.free; have f1 := B4.free; have z0 := B3.lt; have z1 := B4.lt; have z2 := B5.lt
  replace hf2 : ∀ q, A2 = some q → w.heap.size + 3 ≤ q.block := fun q hq => by
    have := hf2 q hq
    simp at this
    omega
  go_wp2_with fail
  · obtain rfl : fin = true := HF.out.symm.trans (by assumption)
    refine bodyPost_ret (v := .agg #[.slice A2 64 c2, .slice (some pd) prog.length d, .int .i64 i, .int .u64 ((rs) 0), .int .u64 ((rs) 1), .int .u64 ((rs) 2), .int .u64 ((rs) 3), .bool true, .int .i64 (took + 1)]) (by simp [results, Try.results17, go_sem, upd, *]) rfl ?_
    refine ⟨_, _, rfl, ?_, ?_, fun q hq => ?_⟩
    · repeat (first | with_reducible refine Rd.drew ?_ | with_reducible refine Rd.past hf2 (by omega) ?_)
      exact hr2
    · repeat (first | with_reducible refine Ext.drew ?_ | with_reducible refine Ext.set ?_ _ (by omega))
      exact E2
    · exact .inr (by have := hf2 q hq; omega)

  · obtain rfl : fin = false := HF.out.symm.trans (by assumption)
    refine bodyPost_ret (v := .agg #[.slice A2 64 c2, .slice (some pd) prog.length d, .int .i64 ((i : Int) + 1), .int .u64 ((rs) 0), .int .u64 ((rs) 1), .int .u64 ((rs) 2), .int .u64 ((rs) 3), .bool false, .int .i64 (took + 1)]) (by simp [results, Try.results17, go_sem, upd, *]) rfl ?_
    refine ⟨_, _, rfl, ?_, ?_, fun q hq => ?_⟩
    · repeat (first | with_reducible refine Rd.drew ?_ | with_reducible refine Rd.past hf2 (by omega) ?_)
      exact hr2
    · repeat (first | with_reducible refine Ext.drew ?_ | with_reducible refine Ext.set ?_ _ (by omega))
      exact E2
    · exact .inr (by have := hf2 q hq; omega)


set_option maxRecDepth 100000 in
set_option maxHeartbeats 1000000 in
theorem ref3_0 (ad : Addr) (c : Nat) (ws : List Int) (pd : Addr) (d : Nat) (prog : List Ins) (i : Nat) (rs : Nat → Int) (took : Int) (x : Ins) (w : World) (h : Rd w 1 (some ad) 64 (Us ws)) (hp : Prg w (some pd) prog) (hget : prog[i]? = some x) (hl : i < prog.length) (hl64 : prog.length ≤ 64) (ht0 : 0 ≤ took) (ht1 : took < 1099511627776) (j : Nat) (hj : j < 64) (hi : x.i = j) (hk : x.k = 3) (ho : ith ws j = x.a) (hr : x.r = 0) (fin : Bool) (hfin : ((((i : Int) + 1) : Int) == (prog.length : Int)) = fin) :
    Calls Try.prog 17 #[.slice (some ad) 64 c, .agg #[.slice (some pd) prog.length d, .int .i64 i, .int .u64 (rs 0), .int .u64 (rs 1), .int .u64 (rs 2), .int .u64 (rs 3), .bool false, .int .i64 took]] w fun e w' => ∃ A' c',
      e = .returned (.agg #[.slice A' 64 c', .slice (some pd) prog.length d, .int .i64 (bif fin then (i : Int) else ((i : Int) + 1)), .int .u64 ((upd rs 0 1) 0), .int .u64 ((upd rs 0 1) 1), .int .u64 ((upd rs 0 1) 2), .int .u64 ((upd rs 0 1) 3), .bool fin, .int .i64 (took + 1)]) ∧ Rd w' 1 A' 64 (Us (ws.set j (rs 0))) ∧ Ext w w' ∧ ∀ q, A' = some q → q = ad ∨ w.heap.size ≤ q.block := by
  obtain ⟨ad', hpd, g0, g1, g2, g3, g4⟩ := hp.at hget
  obtain rfl : pd = ad' := by injection hpd
  clear hpd
  have b0 : (pd.add (i * 5)).block < w.heap.size := World.block_lt_of_cell? w _ g0
  have b1 : (pd.add (i * 5)).block < w.heap.size + 1 := by omega
  have m0 := h.u64 hj
  have hlt : ad.block < w.heap.size := by
    have := World.block_lt_of_cell? w _ m0
    rwa [addr_block] at this
  have a0 : (ad.add j).block < w.heap.size := World.block_lt_of_cell? w _ m0
  have a1 : (ad.add j).block < w.heap.size + 1 := by omega
  have a2 : (ad.add j).block < w.heap.size + 1 + 1 := by omega
  have ht' : (took == 1099511627776) = false := by simp; omega
  clear hget
  have HF := Lib.hid hfin
  clear hfin
  go_enter Try.func17, Try.ntmps17
  go_wp2_with fail
  refine (with_any (some ad) 64 c ws j (rs 0) _ (h.to ((((Ext.refl w).new _).new _).new _)) (by omega)).mono ?_; rintro e w2 ⟨A2, c2, rfl, hr2, hf2, hx2⟩
  have B3 := ((((Bx.new w _ _).alloc _).alloc _)).to hx2
  have B4 := (((Bx.new (w.alloc _) _ _).alloc _)).to hx2
  have B5 := (Bx.new ((w.alloc _).alloc _) _ _).to hx2
  simp at B4 B5
  have E2 := ((((Ext.refl w).new _).new _).new _).step hx2
  clear hx2 b0 b1 g0 g1 g2 g3 g4 m0 a0 a1 a2
  have k0 := B3.cell; have k1 := B4.cell; have k2 := B5.cell; have f0 := B3.free; have f1 := B4.free; have z0 := B3.lt; have z1 := B4.lt; have z2 := B5.lt
  replace hf2 : ∀ q, A2 = some q → w.heap.size + 3 ≤ q.block := fun q hq => by
    have := hf2 q hq
    simp at this
    omega
  go_wp2_with fail
  · obtain rfl : fin = true := HF.out.symm.trans (by assumption)
    refine bodyPost_ret (v := .agg #[.slice A2 64 c2, .slice (some pd) prog.length d, .int .i64 i, .int .u64 ((upd rs 0 1) 0), .int .u64 ((upd rs 0 1) 1), .int .u64 ((upd rs 0 1) 2), .int .u64 ((upd rs 0 1) 3), .bool true, .int .i64 (took + 1)]) (by simp [results, Try.results17, go_sem, upd, *]) rfl ?_
    refine ⟨_, _, rfl, ?_, ?_, fun q hq => ?_⟩
    · repeat (first | with_reducible refine Rd.drew ?_ | with_reducible refine Rd.past hf2 (by omega) ?_)
      exact hr2
    · repeat (first | with_reducible refine Ext.drew ?_ | with_reducible refine Ext.set ?_ _ (by omega))
      exact E2
    · exact .inr (by have := hf2 q hq; omega)

  · obtain rfl : fin = false := HF.out.symm.trans (by assumption)
    refine bodyPost_ret (v := .agg #[.slice A2 64 c2, .slice (some pd) prog.length d, .int .i64 ((i : Int) + 1), .int .u64 ((upd rs 0 1) 0), .int .u64 ((upd rs 0 1) 1), .int .u64 ((upd rs 0 1) 2), .int .u64 ((upd rs 0 1) 3), .bool false, .int .i64 (took + 1)]) (by simp [results, Try.results17, go_sem, upd, *]) rfl ?_
    refine ⟨_, _, rfl, ?_, ?_, fun q hq => ?_⟩
    · repeat (first | with_reducible refine Rd.drew ?_ | with_reducible refine Rd.past hf2 (by omega) ?_)
      exact hr2
    · repeat (first | with_reducible refine Ext.drew ?_ | with_reducible refine Ext.set ?_ _ (by omega))
      exact E2
    · exact .inr (by have := hf2 q hq; omega)


set_option maxRecDepth 100000 in
set_option maxHeartbeats 1000000 in
theorem ref3_1 (ad : Addr) (c : Nat) (ws : List Int) (pd : Addr) (d : Nat) (prog : List Ins) (i : Nat) (rs : Nat → Int) (took : Int) (x : Ins) (w : World) (h : Rd w 1 (some ad) 64 (Us ws)) (hp : Prg w (some pd) prog) (hget : prog[i]? = some x) (hl : i < prog.length) (hl64 : prog.length ≤ 64) (ht0 : 0 ≤ took) (ht1 : took < 1099511627776) (j : Nat) (hj : j < 64) (hi : x.i = j) (hk : x.k = 3) (ho : ith ws j = x.a) (hr : x.r = 1) (fin : Bool) (hfin : ((((i : Int) + 1) : Int) == (prog.length : Int)) = fin) :
    Calls Try.prog 17 #[.slice (some ad) 64 c, .agg #[.slice (some pd) prog.length d, .int .i64 i, .int .u64 (rs 0), .int .u64 (rs 1), .int .u64 (rs 2), .int .u64 (rs 3), .bool false, .int .i64 took]] w fun e w' => ∃ A' c',
      e = .returned (.agg #[.slice A' 64 c', .slice (some pd) prog.length d, .int .i64 (bif fin then (i : Int) else ((i : Int) + 1)), .int .u64 ((upd rs 1 1) 0), .int .u64 ((upd rs 1 1) 1), .int .u64 ((upd rs 1 1) 2), .int .u64 ((upd rs 1 1) 3), .bool fin, .int .i64 (took + 1)]) ∧ Rd w' 1 A' 64 (Us (ws.set j (rs 1))) ∧ Ext w w' ∧ ∀ q, A' = some q → q = ad ∨ w.heap.size ≤ q.block := by
  obtain ⟨ad', hpd, g0, g1, g2, g3, g4⟩ := hp.at hget
  obtain rfl : pd = ad' := by injection hpd
  clear hpd
  have b0 : (pd.add (i * 5)).block < w.heap.size := World.block_lt_of_cell? w _ g0
  have b1 : (pd.add (i * 5)).block < w.heap.size + 1 := by omega
  have m0 := h.u64 hj
  have hlt : ad.block < w.heap.size := by
    have := World.block_lt_of_cell? w _ m0
    rwa [addr_block] at this
  have a0 : (ad.add j).block < w.heap.size := World.block_lt_of_cell? w _ m0
  have a1 : (ad.add j).block < w.heap.size + 1 := by omega
  have a2 : (ad.add j).block < w.heap.size + 1 + 1 := by omega
  have ht' : (took == 1099511627776) = false := by simp; omega
  clear hget
  have HF := Lib.hid hfin
  clear hfin
  go_enter Try.func17, Try.ntmps17
  go_wp2_with fail
  refine (with_any (some ad) 64 c ws j (rs 1) _ (h.to ((((Ext.refl w).new _).new _).new _)) (by omega)).mono ?_; rintro e w2 ⟨A2, c2, rfl, hr2, hf2, hx2⟩
  have B3 := ((((Bx.new w _ _).alloc _).alloc _)).to hx2
  have B4 := (((Bx.new (w.alloc _) _ _).alloc _)).to hx2
  have B5 := (Bx.new ((w.alloc _).alloc _) _ _).to hx2
  simp at B4 B5
  have E2 := ((((Ext.refl w).new _).new _).new _).step hx2
  clear hx2 b0 b1 g0 g1 g2 g3 g4 m0 a0 a1 a2
  have k0 := B3.cell; have k1 := B4.cell; have k2 := B5.cell; have f0 := B3.free; have f1 := B4.free; have z0 := B3.lt; have z1 := B4.lt; have z2 := B5.lt
  replace hf2 : ∀ q, A2 = some q → w.heap.size + 3 ≤ q.block := fun q hq => by
    have := hf2 q hq
    simp at this
    omega
  go_wp2_with fail
  · obtain rfl : fin = true := HF.out.symm.trans (by assumption)
    refine bodyPost_ret (v := .agg #[.slice A2 64 c2, .slice (some pd) prog.length d, .int .i64 i, .int .u64 ((upd rs 1 1) 0), .int .u64 ((upd rs 1 1) 1), .int .u64 ((upd rs 1 1) 2), .int .u64 ((upd rs 1 1) 3), .bool true, .int .i64 (took + 1)]) (by simp [results, Try.results17, go_sem, upd, *]) rfl ?_
    refine ⟨_, _, rfl, ?_, ?_, fun q hq => ?_⟩
    · repeat (first | with_reducible refine Rd.drew ?_ | with_reducible refine Rd.past hf2 (by omega) ?_)
      exact hr2
    · repeat (first | with_reducible refine Ext.drew ?_ | with_reducible refine Ext.set ?_ _ (by omega))
      exact E2
    · exact .inr (by have := hf2 q hq; omega)

  · obtain rfl : fin = false := HF.out.symm.trans (by assumption)
    refine bodyPost_ret (v := .agg #[.slice A2 64 c2, .slice (some pd) prog.length d, .int .i64 ((i : Int) + 1), .int .u64 ((upd rs 1 1) 0), .int .u64 ((upd rs 1 1) 1), .int .u64 ((upd rs 1 1) 2), .int .u64 ((upd rs 1 1) 3), .bool false, .int .i64 (took + 1)]) (by simp [results, Try.results17, go_sem, upd, *]) rfl ?_
    refine ⟨_, _, rfl, ?_, ?_, fun q hq => ?_⟩
    · repeat (first | with_reducible refine Rd.drew ?_ | with_reducible refine Rd.past hf2 (by omega) ?_)
      exact hr2
    · repeat (first | with_reducible refine Ext.drew ?_ | with_reducible refine Ext.set ?_ _ (by omega))
      exact E2
    · exact .inr (by have := hf2 q hq; omega)


set_option maxRecDepth 100000 in
set_option maxHeartbeats 1000000 in
theorem ref3_2 (ad : Addr) (c : Nat) (ws : List Int) (pd : Addr) (d : Nat) (prog : List Ins) (i : Nat) (rs : Nat → Int) (took : Int) (x : Ins) (w : World) (h : Rd w 1 (some ad) 64 (Us ws)) (hp : Prg w (some pd) prog) (hget : prog[i]? = some x) (hl : i < prog.length) (hl64 : prog.length ≤ 64) (ht0 : 0 ≤ took) (ht1 : took < 1099511627776) (j : Nat) (hj : j < 64) (hi : x.i = j) (hk : x.k = 3) (ho : ith ws j = x.a) (hr : x.r = 2) (fin : Bool) (hfin : ((((i : Int) + 1) : Int) == (prog.length : Int)) = fin) :
    Calls Try.prog 17 #[.slice (some ad) 64 c, .agg #[.slice (some pd) prog.length d, .int .i64 i, .int .u64 (rs 0), .int .u64 (rs 1), .int .u64 (rs 2), .int .u64 (rs 3), .bool false, .int .i64 took]] w fun e w' => ∃ A' c',
      e = .returned (.agg #[.slice A' 64 c', .slice (some pd) prog.length d, .int .i64 (bif fin then (i : Int) else ((i : Int) + 1)), .int .u64 ((upd rs 2 1) 0), .int .u64 ((upd rs 2 1) 1), .int .u64 ((upd rs 2 1) 2), .int .u64 ((upd rs 2 1) 3), .bool fin, .int .i64 (took + 1)]) ∧ Rd w' 1 A' 64 (Us (ws.set j (rs 2))) ∧ Ext w w' ∧ ∀ q, A' = some q → q = ad ∨ w.heap.size ≤ q.block := by
  obtain ⟨ad', hpd, g0, g1, g2, g3, g4⟩ := hp.at hget
  obtain rfl : pd = ad' := by injection hpd
  clear hpd
  have b0 : (pd.add (i * 5)).block < w.heap.size := World.block_lt_of_cell? w _ g0
  have b1 : (pd.add (i * 5)).block < w.heap.size + 1 := by omega
  have m0 := h.u64 hj
  have hlt : ad.block < w.heap.size := by
    have := World.block_lt_of_cell? w _ m0
    rwa [addr_block] at this
  have a0 : (ad.add j).block < w.heap.size := World.block_lt_of_cell? w _ m0
  have a1 : (ad.add j).block < w.heap.size + 1 := by omega
  have a2 : (ad.add j).block < w.heap.size + 1 + 1 := by omega
  have ht' : (took == 1099511627776) = false := by simp; omega
  clear hget
  have HF := Lib.hid hfin
  clear hfin
  go_enter Try.func17, Try.ntmps17
  go_wp2_with fail
  refine (with_any (some ad) 64 c ws j (rs 2) _ (h.to ((((Ext.refl w).new _).new _).new _)) (by omega)).mono ?_; rintro e w2 ⟨A2, c2, rfl, hr2, hf2, hx2⟩
  have B3 := ((((Bx.new w _ _).alloc _).alloc _)).to hx2
  have B4 := (((Bx.new (w.alloc _) _ _).alloc _)).to hx2
  have B5 := (Bx.new ((w.alloc _).alloc _) _ _).to hx2
  simp at B4 B5
  have E2 := ((((Ext.refl w).new _).new _).new _).step hx2
  clear hx2 b0 b1 g0 g1 g2 g3 g4 m0 a0 a1 a2
  have k0 := B3.cell; have k1 := B4.cell; have k2 := B5.cell; have f0 := B3.free; have f1 := B4.free; have z0 := B3.lt; have z1 := B4.lt; have z2 := B5.lt
  replace hf2 : ∀ q, A2 = some q → w.heap.size + 3 ≤ q.block := fun q hq => by
    have := hf2 q hq
    simp at this
    omega
  go_wp2_with fail
  · obtain rfl : fin = true := HF.out.symm.trans (by assumption)
    refine bodyPost_ret (v := .agg #[.slice A2 64 c2, .slice (some pd) prog.length d, .int .i64 i, .int .u64 ((upd rs 2 1) 0), .int .u64 ((upd rs 2 1) 1), .int .u64 ((upd rs 2 1) 2), .int .u64 ((upd rs 2 1) 3), .bool true, .int .i64 (took + 1)]) (by simp [results, Try.results17, go_sem, upd, *]) rfl ?_
    refine ⟨_, _, rfl, ?_, ?_, fun q hq => ?_⟩
    · repeat (first | with_reducible refine Rd.drew ?_ | with_reducible refine Rd.past hf2 (by omega) ?_)
      exact hr2
    · repeat (first | with_reducible refine Ext.drew ?_ | with_reducible refine Ext.set ?_ _ (by omega))
      exact E2
    · exact .inr (by have := hf2 q hq; omega)

  · obtain rfl : fin = false := HF.out.symm.trans (by assumption)
    refine bodyPost_ret (v := .agg #[.slice A2 64 c2, .slice (some pd) prog.length d, .int .i64 ((i : Int) + 1), .int .u64 ((upd rs 2 1) 0), .int .u64 ((upd rs 2 1) 1), .int .u64 ((upd rs 2 1) 2), .int .u64 ((upd rs 2 1) 3), .bool false, .int .i64 (took + 1)]) (by simp [results, Try.results17, go_sem, upd, *]) rfl ?_
    refine ⟨_, _, rfl, ?_, ?_, fun q hq => ?_⟩
    · repeat (first | with_reducible refine Rd.drew ?_ | with_reducible refine Rd.past hf2 (by omega) ?_)
      exact hr2
    · repeat (first | with_reducible refine Ext.drew ?_ | with_reducible refine Ext.set ?_ _ (by omega))
      exact E2
    · exact .inr (by have := hf2 q hq; omega)


set_option maxRecDepth 100000 in
set_option maxHeartbeats 1000000 in
theorem ref3_3 (ad : Addr) (c : Nat) (ws : List Int) (pd : Addr) (d : Nat) (prog : List Ins) (i : Nat) (rs : Nat → Int) (took : Int) (x : Ins) (w : World) (h : Rd w 1 (some ad) 64 (Us ws)) (hp : Prg w (some pd) prog) (hget : prog[i]? = some x) (hl : i < prog.length) (hl64 : prog.length ≤ 64) (ht0 : 0 ≤ took) (ht1 : took < 1099511627776) (j : Nat) (hj : j < 64) (hi : x.i = j) (hk : x.k = 3) (ho : ith ws j = x.a) (hr : x.r = 3) (fin : Bool) (hfin : ((((i : Int) + 1) : Int) == (prog.length : Int)) = fin) :
    Calls Try.prog 17 #[.slice (some ad) 64 c, .agg #[.slice (some pd) prog.length d, .int .i64 i, .int .u64 (rs 0), .int .u64 (rs 1), .int .u64 (rs 2), .int .u64 (rs 3), .bool false, .int .i64 took]] w fun e w' => ∃ A' c',
      e = .returned (.agg #[.slice A' 64 c', .slice (some pd) prog.length d, .int .i64 (bif fin then (i : Int) else ((i : Int) + 1)), .int .u64 ((upd rs 3 1) 0), .int .u64 ((upd rs 3 1) 1), .int .u64 ((upd rs 3 1) 2), .int .u64 ((upd rs 3 1) 3), .bool fin, .int .i64 (took + 1)]) ∧ Rd w' 1 A' 64 (Us (ws.set j (rs 3))) ∧ Ext w w' ∧ ∀ q, A' = some q → q = ad ∨ w.heap.size ≤ q.block := by
  obtain ⟨ad', hpd, g0, g1, g2, g3, g4⟩ := hp.at hget
  obtain rfl : pd = ad' := by injection hpd
  clear hpd
  have b0 : (pd.add (i * 5)).block < w.heap.size := World.block_lt_of_cell? w _ g0
  have b1 : (pd.add (i * 5)).block < w.heap.size + 1 := by omega
  have m0 := h.u64 hj
  have hlt : ad.block < w.heap.size := by
    have := World.block_lt_of_cell? w _ m0
    rwa [addr_block] at this
  have a0 : (ad.add j).block < w.heap.size := World.block_lt_of_cell? w _ m0
  have a1 : (ad.add j).block < w.heap.size + 1 := by omega
  have a2 : (ad.add j).block < w.heap.size + 1 + 1 := by omega
  have ht' : (took == 1099511627776) = false := by simp; omega
  clear hget
  have HF := Lib.hid hfin
  clear hfin
  go_enter Try.func17, Try.ntmps17
  go_wp2_with fail
  refine (with_any (some ad) 64 c ws j (rs 3) _ (h.to ((((Ext.refl w).new _).new _).new _)) (by omega)).mono ?_; rintro e w2 ⟨A2, c2, rfl, hr2, hf2, hx2⟩
  have B3 := ((((Bx.new w _ _).alloc _).alloc _)).to hx2
  have B4 := (((Bx.new (w.alloc _) _ _).alloc _)).to hx2
  have B5 := (Bx.new ((w.alloc _).alloc _) _ _).to hx2
  simp at B4 B5
  have E2 := ((((Ext.refl w).new _).new _).new _).step hx2
  clear hx2 b0 b1 g0 g1 g2 g3 g4 m0 a0 a1 a2
  have k0 := B3.cell; have k1 := B4.cell; have k2 := B5.cell; have f0 := B3.free; have f1 := B4.free; have z0 := B3.lt; have z1 := B4.lt; have z2 := B5.lt
  replace hf2 : ∀ q, A2 = some q → w.heap.size + 3 ≤ q.block := fun q hq => by
    have := hf2 q hq
    simp at this
    omega
  go_wp2_with fail
  · obtain rfl : fin = true := HF.out.symm.trans (by assumption)
    refine bodyPost_ret (v := .agg #[.slice A2 64 c2, .slice (some pd) prog.length d, .int .i64 i, .int .u64 ((upd rs 3 1) 0), .int .u64 ((upd rs 3 1) 1), .int .u64 ((upd rs 3 1) 2), .int .u64 ((upd rs 3 1) 3), .bool true, .int .i64 (took + 1)]) (by simp [results, Try.results17, go_sem, upd, *]) rfl ?_
    refine ⟨_, _, rfl, ?_, ?_, fun q hq => ?_⟩
    · repeat (first | with_reducible refine Rd.drew ?_ | with_reducible refine Rd.past hf2 (by omega) ?_)
      exact hr2
    · repeat (first | with_reducible refine Ext.drew ?_ | with_reducible refine Ext.set ?_ _ (by omega))
      exact E2
    · exact .inr (by have := hf2 q hq; omega)

  · obtain rfl : fin = false := HF.out.symm.trans (by assumption)
    refine bodyPost_ret (v := .agg #[.slice A2 64 c2, .slice (some pd) prog.length d, .int .i64 ((i : Int) + 1), .int .u64 ((upd rs 3 1) 0), .int .u64 ((upd rs 3 1) 1), .int .u64 ((upd rs 3 1) 2), .int .u64 ((upd rs 3 1) 3), .bool false, .int .i64 (took + 1)]) (by simp [results, Try.results17, go_sem, upd, *]) rfl ?_
    refine ⟨_, _, rfl, ?_, ?_, fun q hq => ?_⟩
    · repeat (first | with_reducible refine Rd.drew ?_ | with_reducible refine Rd.past hf2 (by omega) ?_)
      exact hr2
    · repeat (first | with_reducible refine Ext.drew ?_ | with_reducible refine Ext.set ?_ _ (by omega))
      exact E2
    · exact .inr (by have := hf2 q hq; omega)


end Go.Proofs.Yteiabmbfjfaboaa
