/-
  Processes on words, by definition: what a step makes of them, and what picks come to; and what lies in memory of them.
-/
import Derived.Test.YteiabmbfjfaboaaBase
import Derived.Test.YteiabmbfjfaboaaBox
set_option linter.unusedVariables false
set_option linter.unusedSimpArgs false
namespace Go.Proofs.Yteiabmbfjfaboaa
open Go.RowKit

/-- An instruction's numbers: kind, register, word, value, second number. -/
structure Ins where
  k : Int
  r : Int
  i : Int
  a : Int
  b : Int

/-- A process. -/
structure Pc where
  prog : List Ins
  at_ : Int
  rs : Nat → Int
  done : Bool
  took : Int

/-- An instruction may be, in a program of n. -/
def Ins.Ok (x : Ins) (n : Nat) : Prop :=
  (1 ≤ x.k ∧ x.k ≤ 8) ∧ (0 ≤ x.r ∧ x.r ≤ 3) ∧ (0 ≤ x.i ∧ x.i ≤ 63) ∧ (x.k = 6 → 0 ≤ x.b ∧ x.b ≤ 3) ∧ (x.k = 7 → 0 ≤ x.b ∧ x.b < n)
/-- A process may be. -/
def Pc.May (p : Pc) : Prop :=
  (0 < p.prog.length ∧ p.prog.length ≤ 64) ∧ (0 ≤ p.at_ ∧ p.at_ < p.prog.length) ∧ (0 ≤ p.took ∧ p.took ≤ 1099511627776) ∧ ∀ x ∈ p.prog, x.Ok p.prog.length

/-- The registers, one turned. -/
def upd (rs : Nat → Int) (r : Nat) (v : Int) : Nat → Int := fun j => if j = r then v else rs j
theorem upd_self (rs : Nat → Int) (r : Nat) : upd rs r (rs r) = rs := by
  funext j
  unfold upd
  split
  · subst_vars; rfl
  · rfl
theorem upd_eq (rs : Nat → Int) (r : Nat) (v : Int) : upd rs r v r = v := by simp [upd]
theorem upd_ne (rs : Nat → Int) (r j : Nat) (v : Int) (h : j ≠ r) : upd rs r v j = rs j := by simp [upd, h]
theorem upd_upd (rs : Nat → Int) (r : Nat) (v v' : Int) : upd (upd rs r v) r v' = upd rs r v' := by
  funext j
  unfold upd
  split <;> rfl

/-- Where a process goes on. -/
def nextOf (x : Ins) (rs : Nat → Int) (at_ : Int) (n : Nat) : Int :=
  if x.k = 8 then n else if x.k = 7 ∧ rs x.r.toNat = 0 then x.b else at_ + 1
/-- The words behind an instruction. -/
def wordsOf (x : Ins) (rs : Nat → Int) (ws : List Int) : List Int :=
  if x.k = 2 then ws.set x.i.toNat (rs x.r.toNat)
  else if x.k = 3 then (if ith ws x.i.toNat = x.a then ws.set x.i.toNat (rs x.r.toNat) else ws)
  else if x.k = 4 then ws.set x.i.toNat (IntKind.u64.wrap (ith ws x.i.toNat + x.a)) else ws
/-- What its register is behind it. -/
def regOf (x : Ins) (rs : Nat → Int) (ws : List Int) : Int :=
  if x.k = 1 then ith ws x.i.toNat
  else if x.k = 3 then (if ith ws x.i.toNat = x.a then 1 else 0)
  else if x.k = 4 then ith ws x.i.toNat
  else if x.k = 5 then x.a
  else if x.k = 6 then IntKind.u64.wrap (rs x.r.toNat + rs x.b.toNat) else rs x.r.toNat
/-- The process behind its instruction, where it goes on at that place. -/
def Pc.on (p : Pc) (rs : Nat → Int) (next : Int) : Pc :=
  { p with rs := rs, took := p.took + 1, done := decide (next = (p.prog.length : Int)), at_ := if next = (p.prog.length : Int) then p.at_ else next }

/-- The process at one of a program. -/
def Pc.ins (p : Pc) : Ins := p.prog.getD p.at_.toNat ⟨8, 0, 0, 0, 0⟩
/-- A step. -/
def stp (ws : List Int) (p : Pc) : List Int × Pc :=
  if p.done = true ∨ p.took = 1099511627776 then (ws, p)
  else (wordsOf p.ins p.rs ws, p.on (upd p.rs p.ins.r.toNat (regOf p.ins p.rs ws)) (nextOf p.ins p.rs p.at_ p.prog.length))
/-- One pick. -/
def pick (s : List Int × List Pc) (x : Int) : List Int × List Pc :=
  if 0 ≤ x then
    match s.2[x.toNat]? with
    | some p => ((stp s.1 p).1, s.2.set x.toNat (stp s.1 p).2)
    | none => s
  else s
/-- All picks, in order. -/
def runs (s : List Int × List Pc) (l : List Int) : List Int × List Pc := l.foldl pick s

theorem wordsOf_length (x : Ins) (rs : Nat → Int) (ws : List Int) : (wordsOf x rs ws).length = ws.length := by
  unfold wordsOf
  repeat' split
  all_goals simp
theorem stp_words (ws : List Int) (p : Pc) : (stp ws p).1.length = ws.length := by
  unfold stp
  split
  · rfl
  · exact wordsOf_length _ _ _
theorem stp_prog (ws : List Int) (p : Pc) : (stp ws p).2.prog = p.prog := by
  unfold stp
  split <;> rfl
theorem ins_of {p : Pc} (h : p.May) : ∃ i : Nat, p.at_ = i ∧ i < p.prog.length ∧ p.prog[i]? = some p.ins ∧ p.ins.Ok p.prog.length := by
  obtain ⟨_, ⟨h1, h2⟩, _, h4⟩ := h
  obtain ⟨i, hi⟩ := Int.eq_ofNat_of_zero_le h1
  have hl : i < p.prog.length := by omega
  have he : p.ins = p.prog[i] := by
    unfold Pc.ins
    rw [hi]
    simp [List.getD_eq_getElem?_getD, List.getElem?_eq_getElem hl]
  exact ⟨i, hi, hl, by rw [he]; exact List.getElem?_eq_getElem hl, by rw [he]; exact h4 _ (List.getElem_mem _)⟩
theorem next_range {x : Ins} {rs : Nat → Int} {i : Nat} {n : Nat} (h : x.Ok n) (hi : i < n) : 0 ≤ nextOf x rs i n ∧ nextOf x rs i n ≤ n := by
  unfold nextOf
  split
  · omega
  split
  · rename_i h7
    have := h.2.2.2.2 h7.1
    omega
  · omega
theorem stp_may {ws : List Int} {p : Pc} (h : p.May) : (stp ws p).2.May := by
  unfold stp
  split
  · exact h
  · rename_i hd
    obtain ⟨i, hi, hl, _, hok⟩ := ins_of h
    obtain ⟨h1, h2, h3, h4⟩ := h
    have hn := next_range (rs := p.rs) hok hl
    refine ⟨h1, ?_, ?_, h4⟩
    · simp only [Pc.on]
      split
      · exact h2
      · rw [hi] at *
        omega
    · simp only [Pc.on]
      have : p.took ≠ 1099511627776 := fun e => hd (.inr e)
      omega
theorem pick_words (s : List Int × List Pc) (x : Int) : (pick s x).1.length = s.1.length := by
  unfold pick
  split
  · split
    · exact stp_words _ _
    · rfl
  · rfl
theorem pick_procs (s : List Int × List Pc) (x : Int) : (pick s x).2.length = s.2.length := by
  unfold pick
  split
  · split
    · simp
    · rfl
  · rfl
theorem pick_may {s : List Int × List Pc} (h : ∀ p ∈ s.2, p.May) (x : Int) : ∀ p ∈ (pick s x).2, p.May := by
  unfold pick
  split
  · split
    · rename_i p hp
      intro q hq
      rcases List.mem_or_eq_of_mem_set hq with h' | h'
      · exact h q h'
      · rw [h']; exact stp_may (h p (List.mem_of_getElem? hp))
    · exact h
  · exact h
theorem runs_words (l : List Int) : ∀ s : List Int × List Pc, (runs s l).1.length = s.1.length := by
  induction l with
  | nil => intro s; rfl
  | cons x l ih => intro s; exact (ih (pick s x)).trans (pick_words s x)
theorem runs_procs (l : List Int) : ∀ s : List Int × List Pc, (runs s l).2.length = s.2.length := by
  induction l with
  | nil => intro s; rfl
  | cons x l ih => intro s; exact (ih (pick s x)).trans (pick_procs s x)
theorem runs_may (l : List Int) : ∀ s : List Int × List Pc, (∀ p ∈ s.2, p.May) → ∀ p ∈ (runs s l).2, p.May := by
  induction l with
  | nil => intro s h; exact h
  | cons x l ih => intro s h; exact ih (pick s x) (pick_may h x)
theorem runs_append (s : List Int × List Pc) (l m : List Int) : runs s (l ++ m) = runs (runs s l) m := by simp [runs, List.foldl_append]
theorem runs_snoc (s : List Int × List Pc) (l : List Int) (x : Int) : runs s (l ++ [x]) = pick (runs s l) x := by simp [runs, List.foldl_append]

/-- Rows of cells, one behind another. -/
def flat {α : Type} (f : α → List Value) (xs : List α) : List Value := xs.flatMap f
theorem flat_length {α : Type} {f : α → List Value} {s : Nat} (hf : ∀ x, (f x).length = s) (xs : List α) : (flat f xs).length = xs.length * s := by
  induction xs with
  | nil => simp [flat]
  | cons x xs ih =>
    have : flat f (x :: xs) = f x ++ flat f xs := by simp [flat]
    rw [this, List.length_append, hf, ih, List.length_cons, Nat.add_mul]
    omega
theorem flat_get {α : Type} {f : α → List Value} {s : Nat} (hf : ∀ x, (f x).length = s) : ∀ (xs : List α) (i j : Nat) (x : α), xs[i]? = some x → j < s → (flat f xs)[i * s + j]? = (f x)[j]? := by
  intro xs
  induction xs with
  | nil => intro i j x h; simp at h
  | cons y xs ih =>
    intro i j x h hj
    have e : flat f (y :: xs) = f y ++ flat f xs := by simp [flat]
    rw [e]
    cases i with
    | zero =>
      simp at h
      subst h
      rw [Nat.zero_mul, Nat.zero_add, List.getElem?_append_left (by rw [hf]; exact hj)]
    | succ i =>
      rw [List.getElem?_append_right (by rw [hf, Nat.succ_mul]; omega), hf, show (i + 1) * s + j - s = i * s + j by rw [Nat.succ_mul]; omega]
      exact ih i j x (by simpa using h) hj
theorem flat_append {α : Type} (f : α → List Value) (xs ys : List α) : flat f xs ++ flat f ys = flat f (xs ++ ys) := by simp [flat]
theorem flat_take {α : Type} {f : α → List Value} {s : Nat} (hf : ∀ x, (f x).length = s) (xs : List α) : ∀ k, (flat f xs).take (k * s) = flat f (xs.take k) := by
  induction xs with
  | nil => intro k; simp [flat]
  | cons x xs ih =>
    intro k
    have e : flat f (x :: xs) = f x ++ flat f xs := by simp [flat]
    cases k with
    | zero => simp [flat]
    | succ k =>
      rw [e, List.take_append, hf, List.take_of_length_le (by rw [hf, Nat.succ_mul]; omega), show (k + 1) * s - s = k * s by rw [Nat.succ_mul]; omega, ih k]
      simp [flat]

/-- The cells of an instruction. -/
def Ins.cells (x : Ins) : List Value := [.int .i64 x.k, .int .i64 x.r, .int .i64 x.i, .int .u64 x.a, .int .i64 x.b]
theorem Ins.cells_length (x : Ins) : x.cells.length = 5 := rfl
/-- In w the slice value with address A and n elements shows a program. -/
def Prg (w : World) (A : Option Addr) (is : List Ins) : Prop := Rd w 5 A is.length (flat Ins.cells is)
theorem Prg.to {w w' : World} {A : Option Addr} {is : List Ins} (h : Prg w A is) (e : Ext w w') : Prg w' A is := Rd.to h e
theorem Prg.at {w : World} {A : Option Addr} {is : List Ins} (h : Prg w A is) {i : Nat} {x : Ins} (hx : is[i]? = some x) :
    ∃ ad, A = some ad ∧ w.cell? (ad.add (i * 5)) = some (.int .i64 x.k) ∧ w.cell? { block := (ad.add (i * 5)).block, off := (ad.add (i * 5)).off + 1 } = some (.int .i64 x.r) ∧
      w.cell? { block := (ad.add (i * 5)).block, off := (ad.add (i * 5)).off + 2 } = some (.int .i64 x.i) ∧ w.cell? { block := (ad.add (i * 5)).block, off := (ad.add (i * 5)).off + 3 } = some (.int .u64 x.a) ∧
      w.cell? { block := (ad.add (i * 5)).block, off := (ad.add (i * 5)).off + 4 } = some (.int .i64 x.b) := by
  have g := fun j (hj : j < 5) => flat_get Ins.cells_length is i j x hx hj
  obtain ⟨ad, ha, h0⟩ := h.2 _ _ ((g 0 (by omega)).trans rfl)
  have hc : ∀ j u, (flat Ins.cells is)[j]? = some u → w.cell? (ad.add j) = some u := fun j u hj => by
    obtain ⟨ad', ha', h'⟩ := h.2 j u hj
    rw [ha] at ha'
    injection ha' with ha'
    rw [ha']
    exact h'
  refine ⟨ad, ha, ?_, ?_, ?_, ?_, ?_⟩
  · simpa using h0
  · have := hc _ _ ((g 1 (by omega)).trans rfl)
    rw [← addr_add] at this
    exact this
  · have := hc _ _ ((g 2 (by omega)).trans rfl)
    rw [← addr_add] at this
    exact this
  · have := hc _ _ ((g 3 (by omega)).trans rfl)
    rw [← addr_add] at this
    exact this
  · have := hc _ _ ((g 4 (by omega)).trans rfl)
    rw [← addr_add] at this
    exact this

end Go.Proofs.Yteiabmbfjfaboaa
