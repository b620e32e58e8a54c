/-
  The walk of ArenaFills.
-/
import Derived.Test.YtmfpgbiicncpcaaFillMath
import Derived.Test.YtmfpgbiicncpcaaSeen
import Derived.Test.YtmfpgbiicncpcaaArMake3
import Derived.Carry
set_option linter.unusedVariables false
set_option linter.unusedSimpArgs false
namespace Go.Proofs.Ytmfpgbiicncpcaa
open Go.RowKit

/-- A node with a number. -/
def numb (i : Nat) : Nd := ⟨1, 0, i, 0, 0, 0, 0, 0, 0, 0, 0, 0, 0, 0, 0, 0⟩
theorem numb_makes (i : Nat) : (numb i).Makes := ⟨by simp [numb], by simp [numb], ⟨by simp [numb], by simp [numb]⟩, ⟨by simp [numb], by simp [numb]⟩, fun r hr => by simp [numb, Nd.kids] at hr; exact .inl hr⟩
theorem numb_ok (i : Nat) : (numb i).Ok := fun r hr => by simp [numb, Nd.kids] at hr; subst hr; omega

def one : Nd := ⟨1, 0, 0, 0, 0, 0, 0, 0, 0, 0, 0, 0, 0, 0, 0, 0⟩
theorem one_makes : one.Makes := ⟨by decide, by decide, ⟨by decide, by decide⟩, ⟨by decide, by decide⟩, fun r hr => by simp [one, Nd.kids] at hr; exact .inl hr⟩
theorem one_ok : one.Ok := fun r hr => by simp [one, Nd.kids] at hr; subst hr; omega

/-- The variable b holds an arena; block o is none of its. -/
structure Held (W : World) (b n m : Nat) (ns : List Nd) (fs : List Int) (o : Option Nat) : Prop where
  held : ∃ (g c d : Nat) (B : Option Addr), Bx W b #[.slice (some ⟨g, 0, none⟩) n c, .slice B m d] ∧ Ar W (some ⟨g, 0, none⟩) n B m ns fs ∧ g ≠ b ∧ (∀ q, B = some q → q.block ≠ b) ∧ o ≠ some g ∧ (0 < m → ∀ q, B = some q → o ≠ some q.block)

theorem Held.to {W W' : World} {b n m : Nat} {ns : List Nd} {fs : List Int} {o : Option Nat} (h : Held W b n m ns fs o) (hx : Ext W W') : Held W' b n m ns fs o := by
  obtain ⟨g, c, d, B, h1, h2, h3, h4, h5, h6⟩ := h.held
  exact ⟨g, c, d, B, h1.to hx, h2.to hx, h3, h4, h5, h6⟩
theorem Ar.only {W W' : World} {b g n m : Nat} {B : Option Addr} {ns : List Nd} {fs : List Int} (h : Ar W (some ⟨g, 0, none⟩) n B m ns fs) (ho : Only b W W') (h1 : g ≠ b) (h2 : ∀ q, B = some q → q.block ≠ b) : Ar W' (some ⟨g, 0, none⟩) n B m ns fs :=
  ⟨ho.rd h.nodes (fun q hq => by injection hq with hq; subst hq; exact h1), ho.rd h.free h2, h.ok⟩
theorem Held.of {W : World} {b g c d n m : Nat} {B : Option Addr} {u v : Value} {ns : List Nd} {fs : List Int} {o : Option Nat} (hb : Bx W b #[u, v]) (hA : Ar W (some ⟨g, 0, none⟩) n B m ns fs) (h1 : g ≠ b) (h2 : ∀ q, B = some q → q.block ≠ b) (h3 : o ≠ some g) (h4 : ∀ q, B = some q → o ≠ some q.block) :
    Held ((W.setCell ⟨b, 0, none⟩ (.slice (some ⟨g, 0, none⟩) n c)).setCell ⟨b, 1, none⟩ (.slice B m d)) b n m ns fs o :=
  ⟨g, c, d, B, hb.two _ _, hA.only (Only.two _ _ _ _) h1 h2, h1, h2, h3, fun _ => h4⟩
theorem Seen.nocell {W : World} {k : TypeId} {q : IntKind} {b : Nat} {l : List Int} (h : Seen W k q b l) (p : Addr) (hp : p.block = b) : W.cell? p = none := by
  obtain ⟨D, ⟨es, clock, hb, _⟩, _⟩ := h
  subst hp
  simp [World.cell?, hb]
theorem Seen.rd {W W' : World} {k : TypeId} {q : IntKind} {b : Nat} {l : List Int} (h : Seen W k q b l) (ho : Only b W W') {size n : Nat} {A : Option Addr} {xs : List Value} (hr : Rd W size A n xs) : Rd W' size A n xs :=
  ⟨hr.1, fun j u hu => by
    obtain ⟨ad, ha, hc⟩ := hr.2 j u hu
    exact ⟨ad, ha, ho.cellOf hc (fun e => by rw [h.nocell _ e] at hc; cases hc)⟩⟩
theorem Seen.bx {W W' : World} {k : TypeId} {q : IntKind} {b b' : Nat} {l : List Int} {u v : Value} (h : Seen W k q b l) (ho : Only b W W') (hb : Bx W b' #[u, v]) : Bx W' b' #[u, v] :=
  ho.bx hb (fun e => by have := hb.cell 0; rw [h.nocell _ e] at this; cases this)
theorem Seen.held {W W' : World} {k : TypeId} {q : IntKind} {b b' n m : Nat} {l : List Int} {ns : List Nd} {fs : List Int} {o : Option Nat} (h : Seen W k q b l) (ho : Only b W W') (hh : Held W b' n m ns fs o) : Held W' b' n m ns fs o := by
  obtain ⟨g, c, d, B, h1, h2, h3, h4, h5, h6⟩ := hh.held
  exact ⟨g, c, d, B, h.bx ho h1, ⟨h.rd ho h2.nodes, h.rd ho h2.free, h2.ok⟩, h3, h4, h5, h6⟩
theorem Seen.own {W W' : World} {k : TypeId} {q : IntKind} {b base n size : Nat} {e : TypeId} {l : List Int} {v : Value} {xs : List Value} (h : Seen W k q b l) (ho : Only b W W') (hr : W.ownsRow base e size v n xs) : W'.ownsRow base e size v n xs := by
  refine own_only hr ho (fun hv => ?_)
  obtain ⟨D, ⟨es, clock, hb, _⟩, _⟩ := h
  rcases hr.2 with ⟨rfl, _⟩ | ⟨g, cap, cur, rfl, _, hg, _⟩
  · cases hv
  · have : g = b := by injection hv
    subst this
    rw [hb] at hg
    cases hg
theorem Ar.ltA {W : World} {g n m : Nat} {B : Option Addr} {ns : List Nd} {fs : List Int} (h : Ar W (some ⟨g, 0, none⟩) n B m ns fs) (hn : 0 < n) : g < W.heap.size := by
  obtain ⟨x, hx⟩ : ∃ x, ns[0]? = some x := ⟨_, List.getElem?_eq_getElem (by rw [h.len]; exact hn)⟩
  obtain ⟨ad, ha, hc⟩ := h.nodeAt hx
  obtain rfl := Option.some.inj ha
  have := World.block_lt_of_cell? W _ hc.kc
  rw [addr_block] at this
  exact this
theorem Ar.ltB {W : World} {n m : Nat} {A B : Option Addr} {ns : List Nd} {fs : List Int} (h : Ar W A n B m ns fs) (hm : 0 < m) : ∀ q, B = some q → q.block < W.heap.size := fun q hq => by
  obtain ⟨y, hy⟩ : ∃ y, fs[0]? = some y := ⟨_, List.getElem?_eq_getElem (by rw [h.lenF]; exact hm)⟩
  obtain ⟨ad, ha, hc⟩ := h.freeAt hy
  rw [hq] at ha
  obtain rfl := Option.some.inj ha
  have := World.block_lt_of_cell? W _ hc
  rw [addr_block] at this
  exact this

theorem Held.grown {W W' : World} {b n m : Nat} {ns : List Nd} {fs : List Int} {o o' : Option Nat} (h : Held W b n m ns fs o) (hn : 0 < n) (hg : W.grownBy W' o) (hb : o ≠ some b) (hat : o' = o ∨ o' = some W.heap.size) : Held W' b n m ns fs o' := by
  obtain ⟨g, c, d, B, h1, h2, h3, h4, h5, h6⟩ := h.held
  have hlt := h2.ltA hn
  have hr : Rd W' 1 B m (Ks .i64 fs) := by
    rcases Nat.eq_zero_or_pos m with e | e
    · subst e
      have hf : fs = [] := List.eq_nil_of_length_eq_zero h2.lenF
      subst hf
      exact Rd.nil _ _ _
    · exact h2.free.grown hg (h6 e)
  refine ⟨g, c, d, B, h1.grown hg hb, ⟨h2.nodes.grown hg (fun q hq => by injection hq with hq; subst hq; exact h5), hr, h2.ok⟩, h3, h4, ?_, fun hm q hq => ?_⟩
  · rcases hat with rfl | rfl
    · exact h5
    · intro e; injection e with e; omega
  · rcases hat with rfl | rfl
    · exact h6 hm q hq
    · have := h2.ltB hm q hq
      intro e; injection e with e; omega

/-- What Make leaves, its reference named. -/
def MadeB (w : World) (n m : Nat) (ns : List Nd) (fs : List Int) (p : Nat) (x : Nd) (rv : Int) (e : Ending) (w' : World) : Prop :=
  ∃ g c B, e = .returned (.tuple #[.agg #[.slice (some ⟨g, 0, none⟩) n c, .slice B m m], .int .u64 rv, .int .i64 0]) ∧ Ar w' (some ⟨g, 0, none⟩) n B m (ns.set p x) (fs.take m) ∧ Ext w w' ∧ FrA w g B
/-- What Drop leaves. -/
def DropB (w : World) (n : Nat) (ns : List Nd) (ps : List Int) (e : Ending) (w' : World) : Prop :=
  ∃ g c B d, e = .returned (.tuple #[.agg #[.slice (some ⟨g, 0, none⟩) n c, .slice B n d], .int .i64 0]) ∧ Ar w' (some ⟨g, 0, none⟩) n B n ns ps ∧ Ext w w' ∧ FrA w g B
def Told0 (ρ : Nat) (n : Nat) (ps : List Int) : Prop := (ρ = 0 ∧ ps = []) ∨ (ρ ≠ 0 ∧ ps.Nodup ∧ ps.length = n ∧ ∀ y ∈ ps, In y n)
def Told1 (ρ : Nat) (n i : Nat) (ns : List Nd) (ps : List Int) : Prop := (ρ = 0 ∧ ps.length = i ∧ Noted ns ps) ∨ (ρ ≠ 0 ∧ ps.Nodup ∧ ps.length = n ∧ ∀ y ∈ ps, In y n)

set_option maxHeartbeats 6400000 in
set_option maxRecDepth 100000 in
theorem fills_walk (x : Int) (w : World) :
    Calls Try.prog 7 #[.int .i64 x] w fun e w' => e = .returned (.bool true) ∧ Ext w w' := by
  have hr := modn_is 60 x (by omega) (by omega)
  have hN := modn_lt 60 x (by omega)
  generalize modn 60 x = N at hr hN
  obtain ⟨n, hn⟩ : ∃ n : Nat, n = N + 1 := ⟨_, rfl⟩
  have e1 : 1 + (N : Int) = (n : Int) := by omega
  have hn1 : 1 ≤ n := by omega
  have hn60 : n ≤ 60 := by omega
  have HN := Lib.hid (new_yes n w hn1 (by omega))
  have hmm := @run_makeMap Try.prog
  obtain ⟨i0, hi0, hz0, hz1, hz2⟩ := info_parts int_info
  clear hn
  go_enter Try.func7, Try.ntmps7
  go_wp2_with fail
  refine HN.out.mono ?_; rintro e w1 ⟨g, c, h, d, rfl, _, _, hA1, hx1, hf1, hf2⟩
  have hg1 := hA1.ltA (by omega)
  have hb1 := hA1.ltB (by omega)
  obtain ⟨b0, hb0⟩ : ∃ b0, b0 = w1.heap.size := ⟨_, rfl⟩
  have HH1 : Held (w1.alloc (.cells #[.slice (some ⟨g, 0, none⟩) n c, .slice (some ⟨h, 0, none⟩) n d] 25)) b0 n n (List.replicate n (bare 0)) (down n) none := by
    rw [hb0]
    exact ⟨g, c, d, some ⟨h, 0, none⟩, Bx.new _ _ _, hA1.to ((Ext.refl _).new _), by omega, (fun q hq => by have := hb1 q hq; omega), by simp, by simp⟩
  have hwb : w.heap.size ≤ b0 := by rw [hb0]; exact hx1.size
  have HI1 := Lib.hid (InRound.new hn1 (show n ≤ 512 by omega))
  have X1 := Lib.hid (hx1.new (.cells #[.slice (some ⟨g, 0, none⟩) n c, .slice (some ⟨h, 0, none⟩) n d] 25))
  have H1 := Lib.hid HH1
  have HB0 := Lib.hid hb0
  clear hA1 hx1 hf1 hf2 hg1 hb1 HH1 hb0
  go_wp2_with fail
  rw [← HB0.out]
  go_loopw [5, 6, 7, 8, 9, 10, 11, 12, 13, 14, 15, 16, 27, 32] (fun p5 _ _ _ _ _ _ _ _ _ _ _ j _ wr => Ext w wr ∧ ∃ ρ : Nat, ρ ≤ 2 ∧ j = .int .i64 ρ ∧ ∃ (P : Option Addr) (q : Nat) (ps : List Int) (ns : List Nd) (fs : List Int), p5 = .slice P ps.length q ∧ Hid (wr.ownsRow w.heap.size 3 1 (.slice P ps.length q) ps.length (Ks .i64 ps)) ∧ Hid ((Value.slice P ps.length q).ownBlock ≠ some b0) ∧ Hid (Held wr b0 n n ns fs (Value.slice P ps.length q).ownBlock) ∧ Hid (InRound ns fs n ρ) ∧ Hid (Told0 ρ n ps)) (fun _ _ _ _ _ _ _ _ _ _ _ _ j _ _ => 2 - (intOf j).toNat)
  case atStart => exact ⟨X1.out, 0, by omega, rfl, none, 0, [], _, _, rfl, Lib.hid (World.ownsRow_nil _ _ _ _), Lib.hid (by simp [Value.ownBlock]), H1, HI1, Lib.hid (.inl ⟨rfl, rfl⟩)⟩
  case round =>
    obtain ⟨hxr, ρ, hρ, rfl, P, q, ps, ns, fs, rfl, hown, hapt, hH, hI, hT⟩ := hrel
    rename World => wr
    by_cases hlt : ρ < 2
    · have HXr := Lib.hid hxr
      have hlt2 : (ρ : Int) < 2 := by omega
      have hlt3 : decide ((ρ : Int) < 2) = true := decide_eq_true hlt2
      clear hxr
      go_wp2_with fail
      go_loopw [5, 8, 9, 10, 11, 32] (fun p5 _ _ _ _ j wi => Ext w wi ∧ ∃ i : Nat, i ≤ n ∧ j = .int .i64 i ∧ ∃ (P : Option Addr) (q : Nat) (ps : List Int) (ns : List Nd) (fs S : List Int), p5 = .slice P ps.length q ∧ Hid (wi.ownsRow w.heap.size 3 1 (.slice P ps.length q) ps.length (Ks .i64 ps)) ∧ Hid ((Value.slice P ps.length q).ownBlock ≠ some b0) ∧ Hid (Held wi b0 n (n - i) ns fs (Value.slice P ps.length q).ownBlock) ∧ Hid (InRound ns fs n ρ) ∧ Hid (Told1 ρ n i ns ps) ∧ Hid (Seen wi 27 .u64 wr.heap.size S) ∧ Hid (SeenIn ns ρ S) ∧ Hid (S.length = i)) (fun _ _ _ _ _ j _ => n - (intOf j).toNat)
      case atStart => exact ⟨HXr.out.new _, 0, Nat.zero_le _, rfl, P, q, ps, ns, fs, [], rfl, Lib.hid (hown.out.alloc _), hapt, Lib.hid (by simpa using hH.out.to ((Ext.refl _).new _)), hI, Lib.hid (by
        rcases hT.out with ⟨h1, h2⟩ | h1
        · exact .inl ⟨h1, by rw [h2]; rfl, by rw [h2]; exact ⟨by simp, by simp⟩⟩
        · exact .inr h1), Lib.hid (Seen.made wr 27 .u64), Lib.hid (fun r hr => by simp at hr), Lib.hid rfl⟩
      case round =>
        obtain ⟨hxi, i, hi, rfl, Pi, qi, pi, ni, fi, S, rfl, howni, hapi, hHi, hIi, hTi, hSi, hSI, hSl⟩ := hrel
        rename World => wi
        by_cases hlti : i < n
        · obtain ⟨mm, hmm'⟩ : ∃ mm, n - i = mm + 1 := ⟨n - i - 1, by omega⟩
          have hHi' := hHi.out
          rw [hmm'] at hHi'
          obtain ⟨g1, c1, d1, B1, hb1, hA1, hg1, hB1, _, _⟩ := hHi'.held
          have hfl : fi.length = mm + 1 := hA1.lenF
          obtain ⟨y, hy⟩ : ∃ y, fi[mm]? = some y := ⟨_, List.getElem?_eq_getElem (by omega)⟩
          obtain ⟨p, old, rfl, ho, hok, _⟩ := hIi.out.may.last hy
          have hgen : old.g = (ρ : Int) := hIi.out.gens old (List.mem_of_getElem? ho)
          have hpn : p < n := by have := (List.getElem?_eq_some_iff.1 ho).1; have := hIi.out.len; omega
          obtain ⟨rv, hrv⟩ : ∃ rv : Int, rv = 65536 * (ρ : Int) + p + 1 := ⟨_, rfl⟩
          have HM := Lib.hid ((make_yes (some ⟨g1, 0, none⟩) B1 n mm c1 d1 ni fi (numb i) p old wi hA1 (by omega) (numb_ok i) hIi.out.may (numb_makes i) hy ho).mono (fun e w' ⟨g, c, B, he, hA, hx, hf⟩ => show MadeB wi n mm ni fi p ((numb i).gen old.g) rv e w' from ⟨g, c, B, by rw [he, hrv, ← hgen]; rfl, hA, hx, hf⟩))
          have HI2 := Lib.hid (hIi.out.make hfl hy ho (numb_makes i))
          have k0 : wi.cell? ⟨b0, 0, none⟩ = some (.slice (some ⟨g1, 0, none⟩) n c1) := hb1.cell 0
          have k1 : wi.cell? ⟨b0, 1, none⟩ = some (.slice B1 (mm + 1 : Nat) d1) := hb1.cell 1
          have hq1 : rv / 65536 = (ρ : Int) := by omega
          have hq2 : rv % 65536 = (p : Int) + 1 := by omega
          have hrv0 : 0 ≤ rv := by omega
          have hrv1 : rv ≤ 18446744073709551615 := by omega
          have HNS := Lib.hid (show decide (rv ∈ S) = false from decide_eq_false (by rw [hrv]; exact hSI.out.fresh ho hok))
          have HSM := Lib.hid (show SeenIn (ni.set p ((numb i).gen old.g)) ρ (S ++ [rv]) by rw [hrv]; exact hSI.out.more ho hok (by show (1 : Int) ≠ 0; omega))
          have HNM := Lib.hid (fun (h : Noted ni pi) => show Noted (ni.set p ((numb i).gen old.g)) (pi ++ [(p : Int)]) from h.more ho hok (by show (1 : Int) ≠ 0; omega))
          have hwf : (Lit.int .u64 rv).wf = true := by
            have h1 : IntKind.u64.min = 0 := by decide
            have h2 : IntKind.u64.max = 18446744073709551615 := by decide
            simp only [Lit.wf, h1, h2, Bool.and_eq_true, decide_eq_true_eq]
            exact ⟨hrv0, hrv1⟩
          have hSlen : S.length < maxLen := by have := hSl.out; unfold maxLen; omega
          have hb0i : b0 < wi.heap.size := hb1.lt
          have hneb : wr.heap.size ≠ b0 := fun e => by rw [hSi.out.nocell _ e.symm] at k0; cases k0
          have HB1 := Lib.hid hb1
          have hwr := HXr.out.size
          have hni : n - (i + 1) = mm := by omega
          have hpl60 : pi.length ≤ 60 := by
            rcases hTi.out with ⟨_, h1, _⟩ | ⟨_, _, h1, _⟩ <;> omega
          have HRV := Lib.hid hrv
          clear hHi' hA1 hb1 hy ho hok hgen hrv hg1 hB1 hfl
          by_cases hρ0 : ρ = 0
          · have HR0 := Lib.hid hρ0
            have r0 : ((ρ : Int) == 0) = true := by simp [hρ0]
            clear hρ0
            go_wp2_with fail
            refine HM.out.mono ?_; rintro e w2 ⟨g2, c2, B2, rfl, hA2, hx2, hf2, hf3⟩
            obtain ⟨w3, hw3⟩ : ∃ w3, w3 = w2.alloc (.cells #[.slice (some ⟨g2, 0, none⟩) n c2, .slice B2 mm mm] 25) := ⟨_, rfl⟩
            obtain ⟨B3, hx3, hs3⟩ := box_made hw3
            have Bb := (HB1.out.to hx2).to hx3
            have z0 : w3.cell? ⟨b0, 0, none⟩ = some (.slice (some ⟨g1, 0, none⟩) n c1) := Bb.cell 0
            have z1 : w3.cell? ⟨b0, 1, none⟩ = some (.slice B1 (mm + 1 : Nat) d1) := Bb.cell 1
            have z2 : w3.frozen? ⟨b0, 0, none⟩ = false := Bb.free 0
            have z3 : w3.frozen? ⟨b0, 1, none⟩ = false := Bb.free 1
            have z4 : w3.cell? ⟨w2.heap.size, 0, none⟩ = some (.slice (some ⟨g2, 0, none⟩) n c2) := B3.cell 0
            have z5 : w3.cell? ⟨w2.heap.size, 1, none⟩ = some (.slice B2 mm mm) := B3.cell 1
            obtain ⟨w4, hw4⟩ : ∃ w4, w4 = (w3.setCell ⟨b0, 0, none⟩ (.slice (some ⟨g2, 0, none⟩) n c2)).setCell ⟨b0, 1, none⟩ (.slice B2 mm mm) := ⟨_, rfl⟩
            have O4 : Only b0 w3 w4 := by rw [hw4]; exact Only.two _ _ _ _
            have E4 : Ext w w4 := O4.new ((hxi.step hx2).step hx3) hwb
            have S3 := (hSi.out.to hx2).to hx3
            have S4 : Seen w4 27 .u64 wr.heap.size S := S3.kept O4 (fun e => hneb (by injection e))
            have own4 := own_only (own_ext (own_ext howni.out hx2) hx3) O4 hapi.out
            have hob : ∀ k, (Value.slice Pi pi.length qi).ownBlock = some k → k < wi.heap.size := fun k hk => (howni.out.lt k hk).2
            have Hd4 : Held w4 b0 n mm (ni.set p ((numb i).gen old.g)) (fi.take mm) (Value.slice Pi pi.length qi).ownBlock := by rw [hw4]; exact Held.of Bb (hA2.to hx3) (by omega) (fun q hq => by have := hf3 q hq; omega) (fun e => by have := hob _ e; omega) (fun q hq e => by have := hf3 q hq; have := hob _ e; omega)
            have H3 := Lib.hid hw3
            have H4 := Lib.hid hw4
            have HF := Lib.hid (And.intro E4 (And.intro own4 Hd4))
            have HS3 := Lib.hid S3
            have HS4 := Lib.hid S4
            clear hw3 hw4 B3 hx3 hs3 Bb O4 E4 S3 S4 own4 Hd4 hA2 hx2 hf2 hf3 k0 k1
            go_wp2_with (first
              | (at_lookup
                 rw [← H3.out]
                 refine wpList_lookup_seen (by rfl) _ _ 59 rfl 27 .u64 Try.underlying59 Try.underlying27 wr.heap.size _ rfl HS3.out rv rfl hwf ?_
                 rw [HNS.out])
              | (at_mapUpdate
                 rw [← H4.out]
                 refine wpList_update_seen rfl _ _ _ 59 rfl 27 .u64 Try.underlying59 Try.underlying27 wr.heap.size _ rfl HS4.out hSlen rv rfl rfl hwf ?_
                 intro w5 hS5 hO5
                 have own5 := HS4.out.own hO5 HF.out.2.1)
              | (at_builtin
                 refine wpList_append_rd _ rfl (.tmp 62) (.tmp 67) _ rfl w.heap.size 3 i0 _ 1 8 Try.underlying23 hi0 hz0 hz1 hz2 rfl (by omega) (.slice Pi pi.length qi) pi.length (Ks .i64 pi) rfl (own5.alloc _) (some ⟨w5.heap.size, 0, none⟩) 1 1 (Ks .i64 [(p : Int)]) rfl (Rd.lit w5 #[.int .i64 (p : Int)] 3 1 rfl) (Ks_one _ _) (by simp only [maxLen]; omega) (by omega) (by have h1 := (hO5.new HF.out.1 hwr).size; simp; omega) ?_
                 intro v6 w6 hown6 hg6 hat6
                 obtain ⟨P6, q6, rfl⟩ := own_slice hown6))
            have E5 := hO5.new HF.out.1 hwr
            have Hd5 := (HS4.out.held hO5 HF.out.2.2).to ((Ext.refl _).new (.cells #[.int .i64 (p : Int)] 3))
            have S5 := hS5.to ((Ext.refl _).new (.cells #[.int .i64 (p : Int)] 3))
            have hb05 : b0 < w5.heap.size := by
              obtain ⟨_, _, _, _, hbx, _, _, _, _, _⟩ := (HS4.out.held hO5 HF.out.2.2).held
              exact hbx.lt
            have hap6 : (Value.slice P6 (pi.length + 1) q6).ownBlock ≠ some b0 := fun e => by
              rcases hat6 with h1 | h1
              · rw [h1] at e; exact hapi.out e
              · rw [h1] at e; injection e with e; simp at e; omega
            have hold5 : ∀ k, (Value.slice Pi pi.length qi).ownBlock = some k → w.heap.size ≤ k := fun k hk => (own5.lt k hk).1
            have E6 := own_back (E5.new (.cells #[.int .i64 (p : Int)] 3)) (show w.heap.size ≤ (w5.alloc (.cells #[.int .i64 (p : Int)] 3)).heap.size by have := E5.size; simp; omega) hg6 hold5
            have hseen : some wr.heap.size ≠ (Value.slice Pi pi.length qi).ownBlock := fun e => by
              rcases own5.2 with ⟨hv, _⟩ | ⟨gq, cap, cur, hv, _, hgq, _⟩
              · rw [hv] at e; cases e
              · rw [hv] at e
                have e' : wr.heap.size = gq := by injection e
                obtain ⟨D, ⟨es, clock, hbm, _⟩, _⟩ := hS5
                rw [e', hgq] at hbm
                cases hbm
            have Hd6 := Hd5.grown (by omega) hg6 hapi.out hat6
            go_roundw
            case rel =>
              refine ⟨E6, i + 1, by omega, by go_num, P6, q6, pi ++ [(p : Int)], _, _, S ++ [rv], by simp, Lib.hid (by
                rw [List.length_append, show Ks .i64 (pi ++ [(p : Int)]) = Ks .i64 pi ++ Ks .i64 [(p : Int)] by simp [Ks]]; exact hown6), Lib.hid (by rw [List.length_append]; exact hap6), Lib.hid (by rw [hni, List.length_append]; exact Hd6), HI2, Lib.hid ?_, Lib.hid (S5.kept hg6 ?_), HSM, Lib.hid (by rw [List.length_append, hSl.out]; rfl)⟩
              · rcases hTi.out with ⟨h1, h2, h3⟩ | ⟨h1, _⟩
                · exact .inl ⟨h1, by rw [List.length_append, h2]; rfl, HNM.out h3⟩
                · exact absurd HR0.out h1
              · exact hseen
            case measure => simp [intOf]; omega
          · have HR0 := Lib.hid hρ0
            have r0 : ((ρ : Int) == 0) = false := by simp; omega
            clear hρ0
            go_wp2_with fail
            refine HM.out.mono ?_; rintro e w2 ⟨g2, c2, B2, rfl, hA2, hx2, hf2, hf3⟩
            obtain ⟨w3, hw3⟩ : ∃ w3, w3 = w2.alloc (.cells #[.slice (some ⟨g2, 0, none⟩) n c2, .slice B2 mm mm] 25) := ⟨_, rfl⟩
            obtain ⟨B3, hx3, hs3⟩ := box_made hw3
            have Bb := (HB1.out.to hx2).to hx3
            have z0 : w3.cell? ⟨b0, 0, none⟩ = some (.slice (some ⟨g1, 0, none⟩) n c1) := Bb.cell 0
            have z1 : w3.cell? ⟨b0, 1, none⟩ = some (.slice B1 (mm + 1 : Nat) d1) := Bb.cell 1
            have z2 : w3.frozen? ⟨b0, 0, none⟩ = false := Bb.free 0
            have z3 : w3.frozen? ⟨b0, 1, none⟩ = false := Bb.free 1
            have z4 : w3.cell? ⟨w2.heap.size, 0, none⟩ = some (.slice (some ⟨g2, 0, none⟩) n c2) := B3.cell 0
            have z5 : w3.cell? ⟨w2.heap.size, 1, none⟩ = some (.slice B2 mm mm) := B3.cell 1
            obtain ⟨w4, hw4⟩ : ∃ w4, w4 = (w3.setCell ⟨b0, 0, none⟩ (.slice (some ⟨g2, 0, none⟩) n c2)).setCell ⟨b0, 1, none⟩ (.slice B2 mm mm) := ⟨_, rfl⟩
            have O4 : Only b0 w3 w4 := by rw [hw4]; exact Only.two _ _ _ _
            have E4 : Ext w w4 := O4.new ((hxi.step hx2).step hx3) hwb
            have S3 := (hSi.out.to hx2).to hx3
            have S4 : Seen w4 27 .u64 wr.heap.size S := S3.kept O4 (fun e => hneb (by injection e))
            have own4 := own_only (own_ext (own_ext howni.out hx2) hx3) O4 hapi.out
            have hob : ∀ k, (Value.slice Pi pi.length qi).ownBlock = some k → k < wi.heap.size := fun k hk => (howni.out.lt k hk).2
            have Hd4 : Held w4 b0 n mm (ni.set p ((numb i).gen old.g)) (fi.take mm) (Value.slice Pi pi.length qi).ownBlock := by rw [hw4]; exact Held.of Bb (hA2.to hx3) (by omega) (fun q hq => by have := hf3 q hq; omega) (fun e => by have := hob _ e; omega) (fun q hq e => by have := hf3 q hq; have := hob _ e; omega)
            have H3 := Lib.hid hw3
            have H4 := Lib.hid hw4
            have HF := Lib.hid (And.intro E4 (And.intro own4 Hd4))
            have HS3 := Lib.hid S3
            have HS4 := Lib.hid S4
            clear hw3 hw4 B3 hx3 hs3 Bb O4 E4 S3 S4 own4 Hd4 hA2 hx2 hf2 hf3 k0 k1
            go_wp2_with (first
              | (at_lookup
                 rw [← H3.out]
                 refine wpList_lookup_seen (by rfl) _ _ 59 rfl 27 .u64 Try.underlying59 Try.underlying27 wr.heap.size _ rfl HS3.out rv rfl hwf ?_
                 rw [HNS.out])
              | (at_mapUpdate
                 rw [← H4.out]
                 refine wpList_update_seen rfl _ _ _ 59 rfl 27 .u64 Try.underlying59 Try.underlying27 wr.heap.size _ rfl HS4.out hSlen rv rfl rfl hwf ?_
                 intro w5 hS5 hO5
                 have own5 := HS4.out.own hO5 HF.out.2.1))
            have E5 := hO5.new HF.out.1 hwr
            have Hd5 := HS4.out.held hO5 HF.out.2.2
            go_roundw
            case rel =>
              exact ⟨E5, i + 1, by omega, by go_num, Pi, qi, pi, _, _, S ++ [rv], rfl, Lib.hid own5, hapi, Lib.hid (by rw [hni]; exact Hd5), HI2, Lib.hid (by
                rcases hTi.out with ⟨h1, _⟩ | h1
                · exact absurd h1 HR0.out
                · exact .inr h1), Lib.hid hS5, HSM, Lib.hid (by rw [List.length_append, hSl.out]; rfl)⟩
            case measure => simp [intOf]; omega
        · have hni0 : n - i = 0 := by omega
          have hHi' := hHi.out
          rw [hni0] at hHi'
          obtain ⟨g1, c1, d1, B1, hb1, hA1, hg1, hB1, _, _⟩ := hHi'.held
          have hf0 : fi = [] := List.eq_nil_of_length_eq_zero hA1.lenF
          have hI0 := hIi.out
          rw [hf0] at hA1 hI0
          have hps : pi.Nodup ∧ pi.length = n ∧ ∀ y ∈ pi, In y n := by
            rcases hTi.out with ⟨_, h2, h3⟩ | ⟨_, h2⟩
            · refine ⟨h3.1, by omega, fun y hy => ?_⟩
              obtain ⟨p, u, rfl, hu, _⟩ := h3.2 y hy
              have := (List.getElem?_eq_some_iff.1 hu).1
              have := hI0.len
              exact ⟨by omega, by omega⟩
            · exact h2
          obtain ⟨ns', hdr, hI9⟩ := hI0.drop hps.1 hps.2.1 hps.2.2
          have hfo : foll (ρ : Int) = ((ρ + 1 : Nat) : Int) := by unfold foll; rw [if_pos (by omega)]; omega
          rw [hfo] at hI9
          have HM := Lib.hid (make_full (some ⟨g1, 0, none⟩) B1 n c1 d1 ni one wi hA1 (by omega) one_ok hI0.may one_makes)
          have HDr := Lib.hid (fun W (hW : Ext wi W) => (drop_is (some ⟨g1, 0, none⟩) B1 Pi n 0 c1 d1 pi.length qi ni [] pi W (hA1.to hW) (by omega) (by omega) (by omega) (Rd.own (own_ext howni.out hW)) hI0.may).mono (fun e w' hR => show DropB W n ns' pi e w' from by
            rcases hR with ⟨h1, _⟩ | ⟨ns2, h1, g, c, B, d, he, _, _, hA, hx, hf⟩
            · rw [hdr] at h1; cases h1
            · rw [hdr] at h1
              obtain rfl := Option.some.inj h1
              rw [Nat.zero_add, hps.2.1] at he hA
              exact ⟨g, c, B, d, he, hA, hx, hf⟩))
          have k0 : wi.cell? ⟨b0, 0, none⟩ = some (.slice (some ⟨g1, 0, none⟩) n c1) := hb1.cell 0
          have k1 : wi.cell? ⟨b0, 1, none⟩ = some (.slice B1 0 d1) := hb1.cell 1
          have HI9 := Lib.hid hI9
          have HB1 := Lib.hid hb1
          have HPS := Lib.hid hps
          have hob : ∀ k, (Value.slice Pi pi.length qi).ownBlock = some k → k < wi.heap.size := fun k hk => (howni.out.lt k hk).2
          have hb0i : b0 < wi.heap.size := hb1.lt
          clear hHi' hA1 hb1 hf0 hI0 hps hdr hfo hI9 hg1 hB1
          go_wp2_with fail
          refine HM.out.mono ?_; rintro e w2 ⟨rfl, hx2⟩
          obtain ⟨w3, hw3⟩ : ∃ w3, w3 = w2.alloc (.cells #[.slice none 0 0, .slice none 0 0] 25) := ⟨_, rfl⟩
          obtain ⟨B3, hx3, hs3⟩ := box_made hw3
          have Bb := (HB1.out.to hx2).to hx3
          have z0 : w3.cell? ⟨b0, 0, none⟩ = some (.slice (some ⟨g1, 0, none⟩) n c1) := Bb.cell 0
          have z1 : w3.cell? ⟨b0, 1, none⟩ = some (.slice B1 0 d1) := Bb.cell 1
          have HX3 := Lib.hid (hx2.step hx3)
          have H3 := Lib.hid hw3
          clear hw3 B3 hx2 hx3 hs3 Bb k0 k1
          go_upto_region 21 with fail
          rw [← H3.out]
          go_wp2_with fail
          refine (HDr.out w3 HX3.out).mono ?_; rintro e w5 ⟨g5, c5, B5, d5, rfl, hA5, hx5, hf5, hf6⟩
          obtain ⟨w6, hw6⟩ : ∃ w6, w6 = w5.alloc (.cells #[.slice (some ⟨g5, 0, none⟩) n c5, .slice B5 n d5] 25) := ⟨_, rfl⟩
          obtain ⟨B6, hx6, hs6⟩ := box_made hw6
          have h36 := hx5.step hx6
          have Bb := (HB1.out.to HX3.out).to h36
          have y0 : w6.cell? ⟨b0, 0, none⟩ = some (.slice (some ⟨g1, 0, none⟩) n c1) := Bb.cell 0
          have y1 : w6.cell? ⟨b0, 1, none⟩ = some (.slice B1 0 d1) := Bb.cell 1
          have y2 : w6.frozen? ⟨b0, 0, none⟩ = false := Bb.free 0
          have y3 : w6.frozen? ⟨b0, 1, none⟩ = false := Bb.free 1
          have y4 : w6.cell? ⟨w5.heap.size, 0, none⟩ = some (.slice (some ⟨g5, 0, none⟩) n c5) := B6.cell 0
          have y5 : w6.cell? ⟨w5.heap.size, 1, none⟩ = some (.slice B5 n d5) := B6.cell 1
          have O7 := Only.two w6 b0 (.slice (some ⟨g5, 0, none⟩) n c5) (.slice B5 n d5)
          have E7 := O7.new ((hxi.step HX3.out).step h36) hwb
          have own7 := own_only (own_ext (own_ext howni.out HX3.out) h36) O7 hapi.out
          have h3s := HX3.out.size
          have Hd7 : Held _ b0 n n ns' pi (Value.slice Pi pi.length qi).ownBlock := Held.of (c := c5) (d := d5) Bb (hA5.to hx6) (by omega) (fun q hq => by have := hf6 q hq; omega) (fun e => by have := hob _ e; omega) (fun q hq e => by have := hf6 q hq; have := hob _ e; omega)
          have HF := Lib.hid (And.intro E7 (And.intro own7 Hd7))
          have H6 := Lib.hid hw6
          clear hw6 B6 hx6 hs6 h36 Bb O7 E7 own7 h3s Hd7 hA5 hx5 hf5 hf6 z0 z1
          go_upto_region 22 with fail
          rw [← H6.out]
          go_wp2_with fail
          go_roundw
          case rel => exact ⟨HF.out.1, ρ + 1, by omega, by go_num, Pi, qi, pi, ns', pi, rfl, Lib.hid HF.out.2.1, hapi, Lib.hid HF.out.2.2, HI9, Lib.hid (.inr ⟨by omega, HPS.out⟩)⟩
          case measure => simp [intOf]; omega
    · obtain ⟨g1, c1, d1, B1, hb1, hA1, _, _, _, _⟩ := hH.out.held
      have HAl := Lib.hid (alive4 wr)
      have HRt := Lib.hid (fun W (hW : Ext wr W) => arRight_is (some ⟨g1, 0, none⟩) B1 n n c1 d1 ns fs W (hA1.to hW) (by omega) (by omega) true ⟨fun _ => hI.out.may, fun _ => rfl⟩)
      have HB1 := Lib.hid hb1
      have HXr := Lib.hid hxr
      clear hb1 hA1 hxr
      go_wp2_with fail
      refine HAl.out.mono ?_; rintro e w2 ⟨rfl, hx2⟩
      have k0 : w2.cell? ⟨b0, 0, none⟩ = some (.slice (some ⟨g1, 0, none⟩) n c1) := (HB1.out.to hx2).cell 0
      have k1 : w2.cell? ⟨b0, 1, none⟩ = some (.slice B1 n d1) := (HB1.out.to hx2).cell 1
      have HX2 := Lib.hid hx2
      clear hx2
      go_wp2_with fail
      refine (HRt.out w2 HX2.out).mono ?_; rintro e w3 ⟨rfl, hx3⟩
      go_wp2_with fail
      go_ret
      exact ⟨rfl, HXr.out.step (HX2.out.step hx3)⟩

theorem ArenaFills_walk (w : World) (x : Int) (_ : (Lit.int .i64 x).wf = true) : Calls Try.prog 7 #[.int .i64 x] w fun e w' => e = .returned (.bool true) ∧ Ext w w' := fills_walk x w

end Go.Proofs.Ytmfpgbiicncpcaa
