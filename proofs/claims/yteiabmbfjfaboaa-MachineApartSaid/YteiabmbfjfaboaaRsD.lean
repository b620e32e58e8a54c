/-
  The document's own step (ref.Step), walked: instructions of kind 7 and 8.
-/
import Derived.Test.YteiabmbfjfaboaaRefStep0
set_option linter.unusedVariables false
set_option linter.unusedSimpArgs false
namespace Go.Proofs.Yteiabmbfjfaboaa
open Go.RowKit


set_option maxRecDepth 100000 in
set_option maxHeartbeats 1000000 in
theorem ref7_0 (ad : Addr) (c : Nat) (ws : List Int) (pd : Addr) (d : Nat) (prog : List Ins) (i : Nat) (rs : Nat → Int) (took : Int) (x : Ins) (w : World) (h : Rd w 1 (some ad) 64 (Us ws)) (hp : Prg w (some pd) prog) (hget : prog[i]? = some x) (hl : i < prog.length) (hl64 : prog.length ≤ 64) (ht0 : 0 ≤ took) (ht1 : took < 1099511627776) (j : Nat) (hj : j < 64) (hi : x.i = j) (hk : x.k = 7) (hz : rs 0 = 0) (b : Nat) (hb : x.b = b) (hr : x.r = 0) (fin : Bool) (hfin : (((b : Int) : Int) == (prog.length : Int)) = fin) :
    Calls Try.prog 17 #[.slice (some ad) 64 c, .agg #[.slice (some pd) prog.length d, .int .i64 i, .int .u64 (rs 0), .int .u64 (rs 1), .int .u64 (rs 2), .int .u64 (rs 3), .bool false, .int .i64 took]] w fun e w' => ∃ A' c',
      e = .returned (.agg #[.slice A' 64 c', .slice (some pd) prog.length d, .int .i64 (bif fin then (i : Int) else (b : Int)), .int .u64 ((rs) 0), .int .u64 ((rs) 1), .int .u64 ((rs) 2), .int .u64 ((rs) 3), .bool fin, .int .i64 (took + 1)]) ∧ Rd w' 1 A' 64 (Us ws) ∧ Ext w w' ∧ ∀ q, A' = some q → q = ad ∨ w.heap.size ≤ q.block := by
  obtain ⟨ad', hpd, g0, g1, g2, g3, g4⟩ := hp.at hget
  obtain rfl : pd = ad' := by injection hpd
  clear hpd
  have b0 : (pd.add (i * 5)).block < w.heap.size := World.block_lt_of_cell? w _ g0
  have b1 : (pd.add (i * 5)).block < w.heap.size + 1 := by omega
  have m0 := h.u64 hj
  have hlt : ad.block < w.heap.size := by
    have := World.block_lt_of_cell? w _ m0
    rwa [addr_block] at this
  have a0 : (ad.add j).block < w.heap.size := World.block_lt_of_cell? w _ m0
  have a1 : (ad.add j).block < w.heap.size + 1 := by omega
  have a2 : (ad.add j).block < w.heap.size + 1 + 1 := by omega
  have ht' : (took == 1099511627776) = false := by simp; omega
  clear hget
  have HF := Lib.hid hfin
  clear hfin
  go_enter Try.func17, Try.ntmps17
  go_wp2_with fail
  · obtain rfl : fin = true := HF.out.symm.trans (by assumption)
    refine bodyPost_ret (v := .agg #[.slice (some ad) 64 c, .slice (some pd) prog.length d, .int .i64 i, .int .u64 ((rs) 0), .int .u64 ((rs) 1), .int .u64 ((rs) 2), .int .u64 ((rs) 3), .bool true, .int .i64 (took + 1)]) (by simp [results, Try.results17, go_sem, upd, *]) rfl ?_
    refine ⟨_, _, rfl, ?_, ?_, fun q hq => ?_⟩
    · refine h.to ?_
      repeat (first | with_reducible refine Ext.drew ?_ | with_reducible refine Ext.new ?_ _)
      exact Ext.refl w
    · repeat (first | with_reducible refine Ext.drew ?_ | with_reducible refine Ext.new ?_ _)
      exact Ext.refl w
    · exact .inl (Option.some.inj hq).symm

  · obtain rfl : fin = false := HF.out.symm.trans (by assumption)
    refine bodyPost_ret (v := .agg #[.slice (some ad) 64 c, .slice (some pd) prog.length d, .int .i64 (b : Int), .int .u64 ((rs) 0), .int .u64 ((rs) 1), .int .u64 ((rs) 2), .int .u64 ((rs) 3), .bool false, .int .i64 (took + 1)]) (by simp [results, Try.results17, go_sem, upd, *]) rfl ?_
    refine ⟨_, _, rfl, ?_, ?_, fun q hq => ?_⟩
    · refine h.to ?_
      repeat (first | with_reducible refine Ext.drew ?_ | with_reducible refine Ext.new ?_ _)
      exact Ext.refl w
    · repeat (first | with_reducible refine Ext.drew ?_ | with_reducible refine Ext.new ?_ _)
      exact Ext.refl w
    · exact .inl (Option.some.inj hq).symm


set_option maxRecDepth 100000 in
set_option maxHeartbeats 1000000 in
theorem ref7_1 (ad : Addr) (c : Nat) (ws : List Int) (pd : Addr) (d : Nat) (prog : List Ins) (i : Nat) (rs : Nat → Int) (took : Int) (x : Ins) (w : World) (h : Rd w 1 (some ad) 64 (Us ws)) (hp : Prg w (some pd) prog) (hget : prog[i]? = some x) (hl : i < prog.length) (hl64 : prog.length ≤ 64) (ht0 : 0 ≤ took) (ht1 : took < 1099511627776) (j : Nat) (hj : j < 64) (hi : x.i = j) (hk : x.k = 7) (hz : rs 1 = 0) (b : Nat) (hb : x.b = b) (hr : x.r = 1) (fin : Bool) (hfin : (((b : Int) : Int) == (prog.length : Int)) = fin) :
    Calls Try.prog 17 #[.slice (some ad) 64 c, .agg #[.slice (some pd) prog.length d, .int .i64 i, .int .u64 (rs 0), .int .u64 (rs 1), .int .u64 (rs 2), .int .u64 (rs 3), .bool false, .int .i64 took]] w fun e w' => ∃ A' c',
      e = .returned (.agg #[.slice A' 64 c', .slice (some pd) prog.length d, .int .i64 (bif fin then (i : Int) else (b : Int)), .int .u64 ((rs) 0), .int .u64 ((rs) 1), .int .u64 ((rs) 2), .int .u64 ((rs) 3), .bool fin, .int .i64 (took + 1)]) ∧ Rd w' 1 A' 64 (Us ws) ∧ Ext w w' ∧ ∀ q, A' = some q → q = ad ∨ w.heap.size ≤ q.block := by
  obtain ⟨ad', hpd, g0, g1, g2, g3, g4⟩ := hp.at hget
  obtain rfl : pd = ad' := by injection hpd
  clear hpd
  have b0 : (pd.add (i * 5)).block < w.heap.size := World.block_lt_of_cell? w _ g0
  have b1 : (pd.add (i * 5)).block < w.heap.size + 1 := by omega
  have m0 := h.u64 hj
  have hlt : ad.block < w.heap.size := by
    have := World.block_lt_of_cell? w _ m0
    rwa [addr_block] at this
  have a0 : (ad.add j).block < w.heap.size := World.block_lt_of_cell? w _ m0
  have a1 : (ad.add j).block < w.heap.size + 1 := by omega
  have a2 : (ad.add j).block < w.heap.size + 1 + 1 := by omega
  have ht' : (took == 1099511627776) = false := by simp; omega
  clear hget
  have HF := Lib.hid hfin
  clear hfin
  go_enter Try.func17, Try.ntmps17
  go_wp2_with fail
  · obtain rfl : fin = true := HF.out.symm.trans (by assumption)
    refine bodyPost_ret (v := .agg #[.slice (some ad) 64 c, .slice (some pd) prog.length d, .int .i64 i, .int .u64 ((rs) 0), .int .u64 ((rs) 1), .int .u64 ((rs) 2), .int .u64 ((rs) 3), .bool true, .int .i64 (took + 1)]) (by simp [results, Try.results17, go_sem, upd, *]) rfl ?_
    refine ⟨_, _, rfl, ?_, ?_, fun q hq => ?_⟩
    · refine h.to ?_
      repeat (first | with_reducible refine Ext.drew ?_ | with_reducible refine Ext.new ?_ _)
      exact Ext.refl w
    · repeat (first | with_reducible refine Ext.drew ?_ | with_reducible refine Ext.new ?_ _)
      exact Ext.refl w
    · exact .inl (Option.some.inj hq).symm

  · obtain rfl : fin = false := HF.out.symm.trans (by assumption)
    refine bodyPost_ret (v := .agg #[.slice (some ad) 64 c, .slice (some pd) prog.length d, .int .i64 (b : Int), .int .u64 ((rs) 0), .int .u64 ((rs) 1), .int .u64 ((rs) 2), .int .u64 ((rs) 3), .bool false, .int .i64 (took + 1)]) (by simp [results, Try.results17, go_sem, upd, *]) rfl ?_
    refine ⟨_, _, rfl, ?_, ?_, fun q hq => ?_⟩
    · refine h.to ?_
      repeat (first | with_reducible refine Ext.drew ?_ | with_reducible refine Ext.new ?_ _)
      exact Ext.refl w
    · repeat (first | with_reducible refine Ext.drew ?_ | with_reducible refine Ext.new ?_ _)
      exact Ext.refl w
    · exact .inl (Option.some.inj hq).symm


set_option maxRecDepth 100000 in
set_option maxHeartbeats 1000000 in
theorem ref7_2 (ad : Addr) (c : Nat) (ws : List Int) (pd : Addr) (d : Nat) (prog : List Ins) (i : Nat) (rs : Nat → Int) (took : Int) (x : Ins) (w : World) (h : Rd w 1 (some ad) 64 (Us ws)) (hp : Prg w (some pd) prog) (hget : prog[i]? = some x) (hl : i < prog.length) (hl64 : prog.length ≤ 64) (ht0 : 0 ≤ took) (ht1 : took < 1099511627776) (j : Nat) (hj : j < 64) (hi : x.i = j) (hk : x.k = 7) (hz : rs 2 = 0) (b : Nat) (hb : x.b = b) (hr : x.r = 2) (fin : Bool) (hfin : (((b : Int) : Int) == (prog.length : Int)) = fin) :
    Calls Try.prog 17 #[.slice (some ad) 64 c, .agg #[.slice (some pd) prog.length d, .int .i64 i, .int .u64 (rs 0), .int .u64 (rs 1), .int .u64 (rs 2), .int .u64 (rs 3), .bool false, .int .i64 took]] w fun e w' => ∃ A' c',
      e = .returned (.agg #[.slice A' 64 c', .slice (some pd) prog.length d, .int .i64 (bif fin then (i : Int) else (b : Int)), .int .u64 ((rs) 0), .int .u64 ((rs) 1), .int .u64 ((rs) 2), .int .u64 ((rs) 3), .bool fin, .int .i64 (took + 1)]) ∧ Rd w' 1 A' 64 (Us ws) ∧ Ext w w' ∧ ∀ q, A' = some q → q = ad ∨ w.heap.size ≤ q.block := by
  obtain ⟨ad', hpd, g0, g1, g2, g3, g4⟩ := hp.at hget
  obtain rfl : pd = ad' := by injection hpd
  clear hpd
  have b0 : (pd.add (i * 5)).block < w.heap.size := World.block_lt_of_cell? w _ g0
  have b1 : (pd.add (i * 5)).block < w.heap.size + 1 := by omega
  have m0 := h.u64 hj
  have hlt : ad.block < w.heap.size := by
    have := World.block_lt_of_cell? w _ m0
    rwa [addr_block] at this
  have a0 : (ad.add j).block < w.heap.size := World.block_lt_of_cell? w _ m0
  have a1 : (ad.add j).block < w.heap.size + 1 := by omega
  have a2 : (ad.add j).block < w.heap.size + 1 + 1 := by omega
  have ht' : (took == 1099511627776) = false := by simp; omega
  clear hget
  have HF := Lib.hid hfin
  clear hfin
  go_enter Try.func17, Try.ntmps17
  go_wp2_with fail
  · obtain rfl : fin = true := HF.out.symm.trans (by assumption)
    refine bodyPost_ret (v := .agg #[.slice (some ad) 64 c, .slice (some pd) prog.length d, .int .i64 i, .int .u64 ((rs) 0), .int .u64 ((rs) 1), .int .u64 ((rs) 2), .int .u64 ((rs) 3), .bool true, .int .i64 (took + 1)]) (by simp [results, Try.results17, go_sem, upd, *]) rfl ?_
    refine ⟨_, _, rfl, ?_, ?_, fun q hq => ?_⟩
    · refine h.to ?_
      repeat (first | with_reducible refine Ext.drew ?_ | with_reducible refine Ext.new ?_ _)
      exact Ext.refl w
    · repeat (first | with_reducible refine Ext.drew ?_ | with_reducible refine Ext.new ?_ _)
      exact Ext.refl w
    · exact .inl (Option.some.inj hq).symm

  · obtain rfl : fin = false := HF.out.symm.trans (by assumption)
    refine bodyPost_ret (v := .agg #[.slice (some ad) 64 c, .slice (some pd) prog.length d, .int .i64 (b : Int), .int .u64 ((rs) 0), .int .u64 ((rs) 1), .int .u64 ((rs) 2), .int .u64 ((rs) 3), .bool false, .int .i64 (took + 1)]) (by simp [results, Try.results17, go_sem, upd, *]) rfl ?_
    refine ⟨_, _, rfl, ?_, ?_, fun q hq => ?_⟩
    · refine h.to ?_
      repeat (first | with_reducible refine Ext.drew ?_ | with_reducible refine Ext.new ?_ _)
      exact Ext.refl w
    · repeat (first | with_reducible refine Ext.drew ?_ | with_reducible refine Ext.new ?_ _)
      exact Ext.refl w
    · exact .inl (Option.some.inj hq).symm


set_option maxRecDepth 100000 in
set_option maxHeartbeats 1000000 in
theorem ref7_3 (ad : Addr) (c : Nat) (ws : List Int) (pd : Addr) (d : Nat) (prog : List Ins) (i : Nat) (rs : Nat → Int) (took : Int) (x : Ins) (w : World) (h : Rd w 1 (some ad) 64 (Us ws)) (hp : Prg w (some pd) prog) (hget : prog[i]? = some x) (hl : i < prog.length) (hl64 : prog.length ≤ 64) (ht0 : 0 ≤ took) (ht1 : took < 1099511627776) (j : Nat) (hj : j < 64) (hi : x.i = j) (hk : x.k = 7) (hz : rs 3 = 0) (b : Nat) (hb : x.b = b) (hr : x.r = 3) (fin : Bool) (hfin : (((b : Int) : Int) == (prog.length : Int)) = fin) :
    Calls Try.prog 17 #[.slice (some ad) 64 c, .agg #[.slice (some pd) prog.length d, .int .i64 i, .int .u64 (rs 0), .int .u64 (rs 1), .int .u64 (rs 2), .int .u64 (rs 3), .bool false, .int .i64 took]] w fun e w' => ∃ A' c',
      e = .returned (.agg #[.slice A' 64 c', .slice (some pd) prog.length d, .int .i64 (bif fin then (i : Int) else (b : Int)), .int .u64 ((rs) 0), .int .u64 ((rs) 1), .int .u64 ((rs) 2), .int .u64 ((rs) 3), .bool fin, .int .i64 (took + 1)]) ∧ Rd w' 1 A' 64 (Us ws) ∧ Ext w w' ∧ ∀ q, A' = some q → q = ad ∨ w.heap.size ≤ q.block := by
  obtain ⟨ad', hpd, g0, g1, g2, g3, g4⟩ := hp.at hget
  obtain rfl : pd = ad' := by injection hpd
  clear hpd
  have b0 : (pd.add (i * 5)).block < w.heap.size := World.block_lt_of_cell? w _ g0
  have b1 : (pd.add (i * 5)).block < w.heap.size + 1 := by omega
  have m0 := h.u64 hj
  have hlt : ad.block < w.heap.size := by
    have := World.block_lt_of_cell? w _ m0
    rwa [addr_block] at this
  have a0 : (ad.add j).block < w.heap.size := World.block_lt_of_cell? w _ m0
  have a1 : (ad.add j).block < w.heap.size + 1 := by omega
  have a2 : (ad.add j).block < w.heap.size + 1 + 1 := by omega
  have ht' : (took == 1099511627776) = false := by simp; omega
  clear hget
  have HF := Lib.hid hfin
  clear hfin
  go_enter Try.func17, Try.ntmps17
  go_wp2_with fail
  · obtain rfl : fin = true := HF.out.symm.trans (by assumption)
    refine bodyPost_ret (v := .agg #[.slice (some ad) 64 c, .slice (some pd) prog.length d, .int .i64 i, .int .u64 ((rs) 0), .int .u64 ((rs) 1), .int .u64 ((rs) 2), .int .u64 ((rs) 3), .bool true, .int .i64 (took + 1)]) (by simp [results, Try.results17, go_sem, upd, *]) rfl ?_
    refine ⟨_, _, rfl, ?_, ?_, fun q hq => ?_⟩
    · refine h.to ?_
      repeat (first | with_reducible refine Ext.drew ?_ | with_reducible refine Ext.new ?_ _)
      exact Ext.refl w
    · repeat (first | with_reducible refine Ext.drew ?_ | with_reducible refine Ext.new ?_ _)
      exact Ext.refl w
    · exact .inl (Option.some.inj hq).symm

  · obtain rfl : fin = false := HF.out.symm.trans (by assumption)
    refine bodyPost_ret (v := .agg #[.slice (some ad) 64 c, .slice (some pd) prog.length d, .int .i64 (b : Int), .int .u64 ((rs) 0), .int .u64 ((rs) 1), .int .u64 ((rs) 2), .int .u64 ((rs) 3), .bool false, .int .i64 (took + 1)]) (by simp [results, Try.results17, go_sem, upd, *]) rfl ?_
    refine ⟨_, _, rfl, ?_, ?_, fun q hq => ?_⟩
    · refine h.to ?_
      repeat (first | with_reducible refine Ext.drew ?_ | with_reducible refine Ext.new ?_ _)
      exact Ext.refl w
    · repeat (first | with_reducible refine Ext.drew ?_ | with_reducible refine Ext.new ?_ _)
      exact Ext.refl w
    · exact .inl (Option.some.inj hq).symm


set_option maxRecDepth 100000 in
set_option maxHeartbeats 1000000 in
theorem ref7n_0 (ad : Addr) (c : Nat) (ws : List Int) (pd : Addr) (d : Nat) (prog : List Ins) (i : Nat) (rs : Nat → Int) (took : Int) (x : Ins) (w : World) (h : Rd w 1 (some ad) 64 (Us ws)) (hp : Prg w (some pd) prog) (hget : prog[i]? = some x) (hl : i < prog.length) (hl64 : prog.length ≤ 64) (ht0 : 0 ≤ took) (ht1 : took < 1099511627776) (j : Nat) (hj : j < 64) (hi : x.i = j) (hk : x.k = 7) (hz : (rs 0 == 0) = false) (hr : x.r = 0) (fin : Bool) (hfin : ((((i : Int) + 1) : Int) == (prog.length : Int)) = fin) :
    Calls Try.prog 17 #[.slice (some ad) 64 c, .agg #[.slice (some pd) prog.length d, .int .i64 i, .int .u64 (rs 0), .int .u64 (rs 1), .int .u64 (rs 2), .int .u64 (rs 3), .bool false, .int .i64 took]] w fun e w' => ∃ A' c',
      e = .returned (.agg #[.slice A' 64 c', .slice (some pd) prog.length d, .int .i64 (bif fin then (i : Int) else ((i : Int) + 1)), .int .u64 ((rs) 0), .int .u64 ((rs) 1), .int .u64 ((rs) 2), .int .u64 ((rs) 3), .bool fin, .int .i64 (took + 1)]) ∧ Rd w' 1 A' 64 (Us ws) ∧ Ext w w' ∧ ∀ q, A' = some q → q = ad ∨ w.heap.size ≤ q.block := by
  obtain ⟨ad', hpd, g0, g1, g2, g3, g4⟩ := hp.at hget
  obtain rfl : pd = ad' := by injection hpd
  clear hpd
  have b0 : (pd.add (i * 5)).block < w.heap.size := World.block_lt_of_cell? w _ g0
  have b1 : (pd.add (i * 5)).block < w.heap.size + 1 := by omega
  have m0 := h.u64 hj
  have hlt : ad.block < w.heap.size := by
    have := World.block_lt_of_cell? w _ m0
    rwa [addr_block] at this
  have a0 : (ad.add j).block < w.heap.size := World.block_lt_of_cell? w _ m0
  have a1 : (ad.add j).block < w.heap.size + 1 := by omega
  have a2 : (ad.add j).block < w.heap.size + 1 + 1 := by omega
  have ht' : (took == 1099511627776) = false := by simp; omega
  clear hget
  have HF := Lib.hid hfin
  clear hfin
  go_enter Try.func17, Try.ntmps17
  go_wp2_with fail
  · obtain rfl : fin = true := HF.out.symm.trans (by assumption)
    refine bodyPost_ret (v := .agg #[.slice (some ad) 64 c, .slice (some pd) prog.length d, .int .i64 i, .int .u64 ((rs) 0), .int .u64 ((rs) 1), .int .u64 ((rs) 2), .int .u64 ((rs) 3), .bool true, .int .i64 (took + 1)]) (by simp [results, Try.results17, go_sem, upd, *]) rfl ?_
    refine ⟨_, _, rfl, ?_, ?_, fun q hq => ?_⟩
    · refine h.to ?_
      repeat (first | with_reducible refine Ext.drew ?_ | with_reducible refine Ext.new ?_ _)
      exact Ext.refl w
    · repeat (first | with_reducible refine Ext.drew ?_ | with_reducible refine Ext.new ?_ _)
      exact Ext.refl w
    · exact .inl (Option.some.inj hq).symm

  · obtain rfl : fin = false := HF.out.symm.trans (by assumption)
    refine bodyPost_ret (v := .agg #[.slice (some ad) 64 c, .slice (some pd) prog.length d, .int .i64 ((i : Int) + 1), .int .u64 ((rs) 0), .int .u64 ((rs) 1), .int .u64 ((rs) 2), .int .u64 ((rs) 3), .bool false, .int .i64 (took + 1)]) (by simp [results, Try.results17, go_sem, upd, *]) rfl ?_
    refine ⟨_, _, rfl, ?_, ?_, fun q hq => ?_⟩
    · refine h.to ?_
      repeat (first | with_reducible refine Ext.drew ?_ | with_reducible refine Ext.new ?_ _)
      exact Ext.refl w
    · repeat (first | with_reducible refine Ext.drew ?_ | with_reducible refine Ext.new ?_ _)
      exact Ext.refl w
    · exact .inl (Option.some.inj hq).symm


set_option maxRecDepth 100000 in
set_option maxHeartbeats 1000000 in
theorem ref7n_1 (ad : Addr) (c : Nat) (ws : List Int) (pd : Addr) (d : Nat) (prog : List Ins) (i : Nat) (rs : Nat → Int) (took : Int) (x : Ins) (w : World) (h : Rd w 1 (some ad) 64 (Us ws)) (hp : Prg w (some pd) prog) (hget : prog[i]? = some x) (hl : i < prog.length) (hl64 : prog.length ≤ 64) (ht0 : 0 ≤ took) (ht1 : took < 1099511627776) (j : Nat) (hj : j < 64) (hi : x.i = j) (hk : x.k = 7) (hz : (rs 1 == 0) = false) (hr : x.r = 1) (fin : Bool) (hfin : ((((i : Int) + 1) : Int) == (prog.length : Int)) = fin) :
    Calls Try.prog 17 #[.slice (some ad) 64 c, .agg #[.slice (some pd) prog.length d, .int .i64 i, .int .u64 (rs 0), .int .u64 (rs 1), .int .u64 (rs 2), .int .u64 (rs 3), .bool false, .int .i64 took]] w fun e w' => ∃ A' c',
      e = .returned (.agg #[.slice A' 64 c', .slice (some pd) prog.length d, .int .i64 (bif fin then (i : Int) else ((i : Int) + 1)), .int .u64 ((rs) 0), .int .u64 ((rs) 1), .int .u64 ((rs) 2), .int .u64 ((rs) 3), .bool fin, .int .i64 (took + 1)]) ∧ Rd w' 1 A' 64 (Us ws) ∧ Ext w w' ∧ ∀ q, A' = some q → q = ad ∨ w.heap.size ≤ q.block := by
  obtain ⟨ad', hpd, g0, g1, g2, g3, g4⟩ := hp.at hget
  obtain rfl : pd = ad' := by injection hpd
  clear hpd
  have b0 : (pd.add (i * 5)).block < w.heap.size := World.block_lt_of_cell? w _ g0
  have b1 : (pd.add (i * 5)).block < w.heap.size + 1 := by omega
  have m0 := h.u64 hj
  have hlt : ad.block < w.heap.size := by
    have := World.block_lt_of_cell? w _ m0
    rwa [addr_block] at this
  have a0 : (ad.add j).block < w.heap.size := World.block_lt_of_cell? w _ m0
  have a1 : (ad.add j).block < w.heap.size + 1 := by omega
  have a2 : (ad.add j).block < w.heap.size + 1 + 1 := by omega
  have ht' : (took == 1099511627776) = false := by simp; omega
  clear hget
  have HF := Lib.hid hfin
  clear hfin
  go_enter Try.func17, Try.ntmps17
  go_wp2_with fail
  · obtain rfl : fin = true := HF.out.symm.trans (by assumption)
    refine bodyPost_ret (v := .agg #[.slice (some ad) 64 c, .slice (some pd) prog.length d, .int .i64 i, .int .u64 ((rs) 0), .int .u64 ((rs) 1), .int .u64 ((rs) 2), .int .u64 ((rs) 3), .bool true, .int .i64 (took + 1)]) (by simp [results, Try.results17, go_sem, upd, *]) rfl ?_
    refine ⟨_, _, rfl, ?_, ?_, fun q hq => ?_⟩
    · refine h.to ?_
      repeat (first | with_reducible refine Ext.drew ?_ | with_reducible refine Ext.new ?_ _)
      exact Ext.refl w
    · repeat (first | with_reducible refine Ext.drew ?_ | with_reducible refine Ext.new ?_ _)
      exact Ext.refl w
    · exact .inl (Option.some.inj hq).symm

  · obtain rfl : fin = false := HF.out.symm.trans (by assumption)
    refine bodyPost_ret (v := .agg #[.slice (some ad) 64 c, .slice (some pd) prog.length d, .int .i64 ((i : Int) + 1), .int .u64 ((rs) 0), .int .u64 ((rs) 1), .int .u64 ((rs) 2), .int .u64 ((rs) 3), .bool false, .int .i64 (took + 1)]) (by simp [results, Try.results17, go_sem, upd, *]) rfl ?_
    refine ⟨_, _, rfl, ?_, ?_, fun q hq => ?_⟩
    · refine h.to ?_
      repeat (first | with_reducible refine Ext.drew ?_ | with_reducible refine Ext.new ?_ _)
      exact Ext.refl w
    · repeat (first | with_reducible refine Ext.drew ?_ | with_reducible refine Ext.new ?_ _)
      exact Ext.refl w
    · exact .inl (Option.some.inj hq).symm


set_option maxRecDepth 100000 in
set_option maxHeartbeats 1000000 in
theorem ref7n_2 (ad : Addr) (c : Nat) (ws : List Int) (pd : Addr) (d : Nat) (prog : List Ins) (i : Nat) (rs : Nat → Int) (took : Int) (x : Ins) (w : World) (h : Rd w 1 (some ad) 64 (Us ws)) (hp : Prg w (some pd) prog) (hget : prog[i]? = some x) (hl : i < prog.length) (hl64 : prog.length ≤ 64) (ht0 : 0 ≤ took) (ht1 : took < 1099511627776) (j : Nat) (hj : j < 64) (hi : x.i = j) (hk : x.k = 7) (hz : (rs 2 == 0) = false) (hr : x.r = 2) (fin : Bool) (hfin : ((((i : Int) + 1) : Int) == (prog.length : Int)) = fin) :
    Calls Try.prog 17 #[.slice (some ad) 64 c, .agg #[.slice (some pd) prog.length d, .int .i64 i, .int .u64 (rs 0), .int .u64 (rs 1), .int .u64 (rs 2), .int .u64 (rs 3), .bool false, .int .i64 took]] w fun e w' => ∃ A' c',
      e = .returned (.agg #[.slice A' 64 c', .slice (some pd) prog.length d, .int .i64 (bif fin then (i : Int) else ((i : Int) + 1)), .int .u64 ((rs) 0), .int .u64 ((rs) 1), .int .u64 ((rs) 2), .int .u64 ((rs) 3), .bool fin, .int .i64 (took + 1)]) ∧ Rd w' 1 A' 64 (Us ws) ∧ Ext w w' ∧ ∀ q, A' = some q → q = ad ∨ w.heap.size ≤ q.block := by
  obtain ⟨ad', hpd, g0, g1, g2, g3, g4⟩ := hp.at hget
  obtain rfl : pd = ad' := by injection hpd
  clear hpd
  have b0 : (pd.add (i * 5)).block < w.heap.size := World.block_lt_of_cell? w _ g0
  have b1 : (pd.add (i * 5)).block < w.heap.size + 1 := by omega
  have m0 := h.u64 hj
  have hlt : ad.block < w.heap.size := by
    have := World.block_lt_of_cell? w _ m0
    rwa [addr_block] at this
  have a0 : (ad.add j).block < w.heap.size := World.block_lt_of_cell? w _ m0
  have a1 : (ad.add j).block < w.heap.size + 1 := by omega
  have a2 : (ad.add j).block < w.heap.size + 1 + 1 := by omega
  have ht' : (took == 1099511627776) = false := by simp; omega
  clear hget
  have HF := Lib.hid hfin
  clear hfin
  go_enter Try.func17, Try.ntmps17
  go_wp2_with fail
  · obtain rfl : fin = true := HF.out.symm.trans (by assumption)
    refine bodyPost_ret (v := .agg #[.slice (some ad) 64 c, .slice (some pd) prog.length d, .int .i64 i, .int .u64 ((rs) 0), .int .u64 ((rs) 1), .int .u64 ((rs) 2), .int .u64 ((rs) 3), .bool true, .int .i64 (took + 1)]) (by simp [results, Try.results17, go_sem, upd, *]) rfl ?_
    refine ⟨_, _, rfl, ?_, ?_, fun q hq => ?_⟩
    · refine h.to ?_
      repeat (first | with_reducible refine Ext.drew ?_ | with_reducible refine Ext.new ?_ _)
      exact Ext.refl w
    · repeat (first | with_reducible refine Ext.drew ?_ | with_reducible refine Ext.new ?_ _)
      exact Ext.refl w
    · exact .inl (Option.some.inj hq).symm

  · obtain rfl : fin = false := HF.out.symm.trans (by assumption)
    refine bodyPost_ret (v := .agg #[.slice (some ad) 64 c, .slice (some pd) prog.length d, .int .i64 ((i : Int) + 1), .int .u64 ((rs) 0), .int .u64 ((rs) 1), .int .u64 ((rs) 2), .int .u64 ((rs) 3), .bool false, .int .i64 (took + 1)]) (by simp [results, Try.results17, go_sem, upd, *]) rfl ?_
    refine ⟨_, _, rfl, ?_, ?_, fun q hq => ?_⟩
    · refine h.to ?_
      repeat (first | with_reducible refine Ext.drew ?_ | with_reducible refine Ext.new ?_ _)
      exact Ext.refl w
    · repeat (first | with_reducible refine Ext.drew ?_ | with_reducible refine Ext.new ?_ _)
      exact Ext.refl w
    · exact .inl (Option.some.inj hq).symm


set_option maxRecDepth 100000 in
set_option maxHeartbeats 1000000 in
theorem ref7n_3 (ad : Addr) (c : Nat) (ws : List Int) (pd : Addr) (d : Nat) (prog : List Ins) (i : Nat) (rs : Nat → Int) (took : Int) (x : Ins) (w : World) (h : Rd w 1 (some ad) 64 (Us ws)) (hp : Prg w (some pd) prog) (hget : prog[i]? = some x) (hl : i < prog.length) (hl64 : prog.length ≤ 64) (ht0 : 0 ≤ took) (ht1 : took < 1099511627776) (j : Nat) (hj : j < 64) (hi : x.i = j) (hk : x.k = 7) (hz : (rs 3 == 0) = false) (hr : x.r = 3) (fin : Bool) (hfin : ((((i : Int) + 1) : Int) == (prog.length : Int)) = fin) :
    Calls Try.prog 17 #[.slice (some ad) 64 c, .agg #[.slice (some pd) prog.length d, .int .i64 i, .int .u64 (rs 0), .int .u64 (rs 1), .int .u64 (rs 2), .int .u64 (rs 3), .bool false, .int .i64 took]] w fun e w' => ∃ A' c',
      e = .returned (.agg #[.slice A' 64 c', .slice (some pd) prog.length d, .int .i64 (bif fin then (i : Int) else ((i : Int) + 1)), .int .u64 ((rs) 0), .int .u64 ((rs) 1), .int .u64 ((rs) 2), .int .u64 ((rs) 3), .bool fin, .int .i64 (took + 1)]) ∧ Rd w' 1 A' 64 (Us ws) ∧ Ext w w' ∧ ∀ q, A' = some q → q = ad ∨ w.heap.size ≤ q.block := by
  obtain ⟨ad', hpd, g0, g1, g2, g3, g4⟩ := hp.at hget
  obtain rfl : pd = ad' := by injection hpd
  clear hpd
  have b0 : (pd.add (i * 5)).block < w.heap.size := World.block_lt_of_cell? w _ g0
  have b1 : (pd.add (i * 5)).block < w.heap.size + 1 := by omega
  have m0 := h.u64 hj
  have hlt : ad.block < w.heap.size := by
    have := World.block_lt_of_cell? w _ m0
    rwa [addr_block] at this
  have a0 : (ad.add j).block < w.heap.size := World.block_lt_of_cell? w _ m0
  have a1 : (ad.add j).block < w.heap.size + 1 := by omega
  have a2 : (ad.add j).block < w.heap.size + 1 + 1 := by omega
  have ht' : (took == 1099511627776) = false := by simp; omega
  clear hget
  have HF := Lib.hid hfin
  clear hfin
  go_enter Try.func17, Try.ntmps17
  go_wp2_with fail
  · obtain rfl : fin = true := HF.out.symm.trans (by assumption)
    refine bodyPost_ret (v := .agg #[.slice (some ad) 64 c, .slice (some pd) prog.length d, .int .i64 i, .int .u64 ((rs) 0), .int .u64 ((rs) 1), .int .u64 ((rs) 2), .int .u64 ((rs) 3), .bool true, .int .i64 (took + 1)]) (by simp [results, Try.results17, go_sem, upd, *]) rfl ?_
    refine ⟨_, _, rfl, ?_, ?_, fun q hq => ?_⟩
    · refine h.to ?_
      repeat (first | with_reducible refine Ext.drew ?_ | with_reducible refine Ext.new ?_ _)
      exact Ext.refl w
    · repeat (first | with_reducible refine Ext.drew ?_ | with_reducible refine Ext.new ?_ _)
      exact Ext.refl w
    · exact .inl (Option.some.inj hq).symm

  · obtain rfl : fin = false := HF.out.symm.trans (by assumption)
    refine bodyPost_ret (v := .agg #[.slice (some ad) 64 c, .slice (some pd) prog.length d, .int .i64 ((i : Int) + 1), .int .u64 ((rs) 0), .int .u64 ((rs) 1), .int .u64 ((rs) 2), .int .u64 ((rs) 3), .bool false, .int .i64 (took + 1)]) (by simp [results, Try.results17, go_sem, upd, *]) rfl ?_
    refine ⟨_, _, rfl, ?_, ?_, fun q hq => ?_⟩
    · refine h.to ?_
      repeat (first | with_reducible refine Ext.drew ?_ | with_reducible refine Ext.new ?_ _)
      exact Ext.refl w
    · repeat (first | with_reducible refine Ext.drew ?_ | with_reducible refine Ext.new ?_ _)
      exact Ext.refl w
    · exact .inl (Option.some.inj hq).symm


set_option maxRecDepth 100000 in
set_option maxHeartbeats 1000000 in
theorem ref8_0 (ad : Addr) (c : Nat) (ws : List Int) (pd : Addr) (d : Nat) (prog : List Ins) (i : Nat) (rs : Nat → Int) (took : Int) (x : Ins) (w : World) (h : Rd w 1 (some ad) 64 (Us ws)) (hp : Prg w (some pd) prog) (hget : prog[i]? = some x) (hl : i < prog.length) (hl64 : prog.length ≤ 64) (ht0 : 0 ≤ took) (ht1 : took < 1099511627776) (j : Nat) (hj : j < 64) (hi : x.i = j) (hk : x.k = 8) (hr : x.r = 0) :
    Calls Try.prog 17 #[.slice (some ad) 64 c, .agg #[.slice (some pd) prog.length d, .int .i64 i, .int .u64 (rs 0), .int .u64 (rs 1), .int .u64 (rs 2), .int .u64 (rs 3), .bool false, .int .i64 took]] w fun e w' => ∃ A' c',
      e = .returned (.agg #[.slice A' 64 c', .slice (some pd) prog.length d, .int .i64 i, .int .u64 ((rs) 0), .int .u64 ((rs) 1), .int .u64 ((rs) 2), .int .u64 ((rs) 3), .bool true, .int .i64 (took + 1)]) ∧ Rd w' 1 A' 64 (Us ws) ∧ Ext w w' ∧ ∀ q, A' = some q → q = ad ∨ w.heap.size ≤ q.block := by
  obtain ⟨ad', hpd, g0, g1, g2, g3, g4⟩ := hp.at hget
  obtain rfl : pd = ad' := by injection hpd
  clear hpd
  have b0 : (pd.add (i * 5)).block < w.heap.size := World.block_lt_of_cell? w _ g0
  have b1 : (pd.add (i * 5)).block < w.heap.size + 1 := by omega
  have m0 := h.u64 hj
  have hlt : ad.block < w.heap.size := by
    have := World.block_lt_of_cell? w _ m0
    rwa [addr_block] at this
  have a0 : (ad.add j).block < w.heap.size := World.block_lt_of_cell? w _ m0
  have a1 : (ad.add j).block < w.heap.size + 1 := by omega
  have a2 : (ad.add j).block < w.heap.size + 1 + 1 := by omega
  have ht' : (took == 1099511627776) = false := by simp; omega
  clear hget
  go_enter Try.func17, Try.ntmps17
  go_wp2_with fail
  · refine bodyPost_ret (v := .agg #[.slice (some ad) 64 c, .slice (some pd) prog.length d, .int .i64 i, .int .u64 ((rs) 0), .int .u64 ((rs) 1), .int .u64 ((rs) 2), .int .u64 ((rs) 3), .bool true, .int .i64 (took + 1)]) (by simp [results, Try.results17, go_sem, upd, *]) rfl ?_
    refine ⟨_, _, rfl, ?_, ?_, fun q hq => ?_⟩
    · refine h.to ?_
      repeat (first | with_reducible refine Ext.drew ?_ | with_reducible refine Ext.new ?_ _)
      exact Ext.refl w
    · repeat (first | with_reducible refine Ext.drew ?_ | with_reducible refine Ext.new ?_ _)
      exact Ext.refl w
    · exact .inl (Option.some.inj hq).symm


set_option maxRecDepth 100000 in
set_option maxHeartbeats 1000000 in
theorem ref8_1 (ad : Addr) (c : Nat) (ws : List Int) (pd : Addr) (d : Nat) (prog : List Ins) (i : Nat) (rs : Nat → Int) (took : Int) (x : Ins) (w : World) (h : Rd w 1 (some ad) 64 (Us ws)) (hp : Prg w (some pd) prog) (hget : prog[i]? = some x) (hl : i < prog.length) (hl64 : prog.length ≤ 64) (ht0 : 0 ≤ took) (ht1 : took < 1099511627776) (j : Nat) (hj : j < 64) (hi : x.i = j) (hk : x.k = 8) (hr : x.r = 1) :
    Calls Try.prog 17 #[.slice (some ad) 64 c, .agg #[.slice (some pd) prog.length d, .int .i64 i, .int .u64 (rs 0), .int .u64 (rs 1), .int .u64 (rs 2), .int .u64 (rs 3), .bool false, .int .i64 took]] w fun e w' => ∃ A' c',
      e = .returned (.agg #[.slice A' 64 c', .slice (some pd) prog.length d, .int .i64 i, .int .u64 ((rs) 0), .int .u64 ((rs) 1), .int .u64 ((rs) 2), .int .u64 ((rs) 3), .bool true, .int .i64 (took + 1)]) ∧ Rd w' 1 A' 64 (Us ws) ∧ Ext w w' ∧ ∀ q, A' = some q → q = ad ∨ w.heap.size ≤ q.block := by
  obtain ⟨ad', hpd, g0, g1, g2, g3, g4⟩ := hp.at hget
  obtain rfl : pd = ad' := by injection hpd
  clear hpd
  have b0 : (pd.add (i * 5)).block < w.heap.size := World.block_lt_of_cell? w _ g0
  have b1 : (pd.add (i * 5)).block < w.heap.size + 1 := by omega
  have m0 := h.u64 hj
  have hlt : ad.block < w.heap.size := by
    have := World.block_lt_of_cell? w _ m0
    rwa [addr_block] at this
  have a0 : (ad.add j).block < w.heap.size := World.block_lt_of_cell? w _ m0
  have a1 : (ad.add j).block < w.heap.size + 1 := by omega
  have a2 : (ad.add j).block < w.heap.size + 1 + 1 := by omega
  have ht' : (took == 1099511627776) = false := by simp; omega
  clear hget
  go_enter Try.func17, Try.ntmps17
  go_wp2_with fail
  · refine bodyPost_ret (v := .agg #[.slice (some ad) 64 c, .slice (some pd) prog.length d, .int .i64 i, .int .u64 ((rs) 0), .int .u64 ((rs) 1), .int .u64 ((rs) 2), .int .u64 ((rs) 3), .bool true, .int .i64 (took + 1)]) (by simp [results, Try.results17, go_sem, upd, *]) rfl ?_
    refine ⟨_, _, rfl, ?_, ?_, fun q hq => ?_⟩
    · refine h.to ?_
      repeat (first | with_reducible refine Ext.drew ?_ | with_reducible refine Ext.new ?_ _)
      exact Ext.refl w
    · repeat (first | with_reducible refine Ext.drew ?_ | with_reducible refine Ext.new ?_ _)
      exact Ext.refl w
    · exact .inl (Option.some.inj hq).symm


set_option maxRecDepth 100000 in
set_option maxHeartbeats 1000000 in
theorem ref8_2 (ad : Addr) (c : Nat) (ws : List Int) (pd : Addr) (d : Nat) (prog : List Ins) (i : Nat) (rs : Nat → Int) (took : Int) (x : Ins) (w : World) (h : Rd w 1 (some ad) 64 (Us ws)) (hp : Prg w (some pd) prog) (hget : prog[i]? = some x) (hl : i < prog.length) (hl64 : prog.length ≤ 64) (ht0 : 0 ≤ took) (ht1 : took < 1099511627776) (j : Nat) (hj : j < 64) (hi : x.i = j) (hk : x.k = 8) (hr : x.r = 2) :
    Calls Try.prog 17 #[.slice (some ad) 64 c, .agg #[.slice (some pd) prog.length d, .int .i64 i, .int .u64 (rs 0), .int .u64 (rs 1), .int .u64 (rs 2), .int .u64 (rs 3), .bool false, .int .i64 took]] w fun e w' => ∃ A' c',
      e = .returned (.agg #[.slice A' 64 c', .slice (some pd) prog.length d, .int .i64 i, .int .u64 ((rs) 0), .int .u64 ((rs) 1), .int .u64 ((rs) 2), .int .u64 ((rs) 3), .bool true, .int .i64 (took + 1)]) ∧ Rd w' 1 A' 64 (Us ws) ∧ Ext w w' ∧ ∀ q, A' = some q → q = ad ∨ w.heap.size ≤ q.block := by
  obtain ⟨ad', hpd, g0, g1, g2, g3, g4⟩ := hp.at hget
  obtain rfl : pd = ad' := by injection hpd
  clear hpd
  have b0 : (pd.add (i * 5)).block < w.heap.size := World.block_lt_of_cell? w _ g0
  have b1 : (pd.add (i * 5)).block < w.heap.size + 1 := by omega
  have m0 := h.u64 hj
  have hlt : ad.block < w.heap.size := by
    have := World.block_lt_of_cell? w _ m0
    rwa [addr_block] at this
  have a0 : (ad.add j).block < w.heap.size := World.block_lt_of_cell? w _ m0
  have a1 : (ad.add j).block < w.heap.size + 1 := by omega
  have a2 : (ad.add j).block < w.heap.size + 1 + 1 := by omega
  have ht' : (took == 1099511627776) = false := by simp; omega
  clear hget
  go_enter Try.func17, Try.ntmps17
  go_wp2_with fail
  · refine bodyPost_ret (v := .agg #[.slice (some ad) 64 c, .slice (some pd) prog.length d, .int .i64 i, .int .u64 ((rs) 0), .int .u64 ((rs) 1), .int .u64 ((rs) 2), .int .u64 ((rs) 3), .bool true, .int .i64 (took + 1)]) (by simp [results, Try.results17, go_sem, upd, *]) rfl ?_
    refine ⟨_, _, rfl, ?_, ?_, fun q hq => ?_⟩
    · refine h.to ?_
      repeat (first | with_reducible refine Ext.drew ?_ | with_reducible refine Ext.new ?_ _)
      exact Ext.refl w
    · repeat (first | with_reducible refine Ext.drew ?_ | with_reducible refine Ext.new ?_ _)
      exact Ext.refl w
    · exact .inl (Option.some.inj hq).symm


set_option maxRecDepth 100000 in
set_option maxHeartbeats 1000000 in
theorem ref8_3 (ad : Addr) (c : Nat) (ws : List Int) (pd : Addr) (d : Nat) (prog : List Ins) (i : Nat) (rs : Nat → Int) (took : Int) (x : Ins) (w : World) (h : Rd w 1 (some ad) 64 (Us ws)) (hp : Prg w (some pd) prog) (hget : prog[i]? = some x) (hl : i < prog.length) (hl64 : prog.length ≤ 64) (ht0 : 0 ≤ took) (ht1 : took < 1099511627776) (j : Nat) (hj : j < 64) (hi : x.i = j) (hk : x.k = 8) (hr : x.r = 3) :
    Calls Try.prog 17 #[.slice (some ad) 64 c, .agg #[.slice (some pd) prog.length d, .int .i64 i, .int .u64 (rs 0), .int .u64 (rs 1), .int .u64 (rs 2), .int .u64 (rs 3), .bool false, .int .i64 took]] w fun e w' => ∃ A' c',
      e = .returned (.agg #[.slice A' 64 c', .slice (some pd) prog.length d, .int .i64 i, .int .u64 ((rs) 0), .int .u64 ((rs) 1), .int .u64 ((rs) 2), .int .u64 ((rs) 3), .bool true, .int .i64 (took + 1)]) ∧ Rd w' 1 A' 64 (Us ws) ∧ Ext w w' ∧ ∀ q, A' = some q → q = ad ∨ w.heap.size ≤ q.block := by
  obtain ⟨ad', hpd, g0, g1, g2, g3, g4⟩ := hp.at hget
  obtain rfl : pd = ad' := by injection hpd
  clear hpd
  have b0 : (pd.add (i * 5)).block < w.heap.size := World.block_lt_of_cell? w _ g0
  have b1 : (pd.add (i * 5)).block < w.heap.size + 1 := by omega
  have m0 := h.u64 hj
  have hlt : ad.block < w.heap.size := by
    have := World.block_lt_of_cell? w _ m0
    rwa [addr_block] at this
  have a0 : (ad.add j).block < w.heap.size := World.block_lt_of_cell? w _ m0
  have a1 : (ad.add j).block < w.heap.size + 1 := by omega
  have a2 : (ad.add j).block < w.heap.size + 1 + 1 := by omega
  have ht' : (took == 1099511627776) = false := by simp; omega
  clear hget
  go_enter Try.func17, Try.ntmps17
  go_wp2_with fail
  · refine bodyPost_ret (v := .agg #[.slice (some ad) 64 c, .slice (some pd) prog.length d, .int .i64 i, .int .u64 ((rs) 0), .int .u64 ((rs) 1), .int .u64 ((rs) 2), .int .u64 ((rs) 3), .bool true, .int .i64 (took + 1)]) (by simp [results, Try.results17, go_sem, upd, *]) rfl ?_
    refine ⟨_, _, rfl, ?_, ?_, fun q hq => ?_⟩
    · refine h.to ?_
      repeat (first | with_reducible refine Ext.drew ?_ | with_reducible refine Ext.new ?_ _)
      exact Ext.refl w
    · repeat (first | with_reducible refine Ext.drew ?_ | with_reducible refine Ext.new ?_ _)
      exact Ext.refl w
    · exact .inl (Option.some.inj hq).symm


end Go.Proofs.Yteiabmbfjfaboaa
