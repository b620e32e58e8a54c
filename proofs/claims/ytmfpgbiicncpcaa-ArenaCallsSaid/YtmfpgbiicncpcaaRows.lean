/-
  No cell of these rows narrows 'for every input' (looked for: loops, veiled, ifaces, maps, wideKeys, modest, calm, conditions, laid).
  DERIVED. THE GIVEN ROWS OF THIS SEAT. 6 by the template 'for every input the law returns true; each argument reads behind the call as it read before'; 0 by the template 'total and deterministic' (their statements: YtmfpgbiicncpcaaTotals.lean).
  GIVEN WITH THE SEED: the statements are not yours to turn. If you find one false, say at which input.
  Laid BY PROGRAM, IN A SANDBOX (cutbox-rows.mjs): the forced cells as the released guide's own fill.sh prints them over the translation 039ccbd7acfd2f31… (all of the seat's roots in one cut). By AI agents, Wed Nov 11 2026. No macro, syntax, notation, axiom, sorry.
-/
import Derived.Test.YtmfpgbiicncpcaaChecked
import GoSem.Claim
import GoSem.ClaimJoined
import GoSem.ClaimMapViews
import Derived.JoinedTies
import Derived.KernelRfl
namespace Go.Proofs.Ytmfpgbiicncpcaa
/- THE CELL 'sum', in the pinned program and in every row, IS THE sha256 OF THE DUMP (.gsa) THAT YtmfpgbiicncpcaaProg.lean LOADS. Nothing in Lean hashes anything: it is a label: what it is worth is what the hold of that sum in a sandbox is worth. -/
noncomputable def Try.pinned : Pinned := { name := "ytmfpgbiicncpcaa", sum := "039ccbd7acfd2f312132a932279adfb372d76cd01d93df3c718ea06afbe6bfde", checked := Try.checked }
namespace Rows
def none {H : Type} : Left H := { results := [], args := [] }

/-- 'burgeonlaw04.ArenaCalls': WHATEVER THE INPUT: true; the input reads as it did. -/
def arenaCallsSpec : ChangeSpec := { name := "arenaCalls", fn := fun _ => fun
  | [d1, d2, d3, d4, d5] => { results := [.lit (.bool true)], args := [d1, d2, d3, d4, d5] }
  | _ => none }
def arenaCallsRow : OpenClaim := { program := "ytmfpgbiicncpcaa", sum := "039ccbd7acfd2f312132a932279adfb372d76cd01d93df3c718ea06afbe6bfde", func := "burgeon/burgeonlaw04.ArenaCalls", spec := "arenaCalls", unfollowed := true, recurses := true, apart := false }
def ArenaCallsSaid : Prop := arenaCallsRow.holds Try.pinned (OpenSpec.ofChange arenaCallsSpec)

/-- ITS FALSE NEIGHBOUR: 'it returns false'. Refute it at one input. -/
def arenaCallsWrong : ChangeSpec := { name := "arenaCalls", fn := fun _ => fun
  | [d1, d2, d3, d4, d5] => { results := [.lit (.bool false)], args := [d1, d2, d3, d4, d5] }
  | _ => none }
def ArenaCallsWrongFalsely : Prop := arenaCallsRow.holds Try.pinned (OpenSpec.ofChange arenaCallsWrong)

/-- 'burgeonlaw04.ArenaDrops': WHATEVER THE INPUT: true; the input reads as it did. -/
def arenaDropsSpec : ChangeSpec := { name := "arenaDrops", fn := fun _ => fun
  | [d1, d2] => { results := [.lit (.bool true)], args := [d1, d2] }
  | _ => none }
def arenaDropsRow : OpenClaim := { program := "ytmfpgbiicncpcaa", sum := "039ccbd7acfd2f312132a932279adfb372d76cd01d93df3c718ea06afbe6bfde", func := "burgeon/burgeonlaw04.ArenaDrops", spec := "arenaDrops", unfollowed := true, recurses := true, apart := false }
def ArenaDropsSaid : Prop := arenaDropsRow.holds Try.pinned (OpenSpec.ofChange arenaDropsSpec)

/-- ITS FALSE NEIGHBOUR: 'it returns false'. Refute it at one input. -/
def arenaDropsWrong : ChangeSpec := { name := "arenaDrops", fn := fun _ => fun
  | [d1, d2] => { results := [.lit (.bool false)], args := [d1, d2] }
  | _ => none }
def ArenaDropsWrongFalsely : Prop := arenaDropsRow.holds Try.pinned (OpenSpec.ofChange arenaDropsWrong)

/-- 'burgeonlaw04.ArenaKeeps': WHATEVER THE INPUT: true; the input reads as it did. -/
def arenaKeepsSpec : ChangeSpec := { name := "arenaKeeps", fn := fun _ => fun
  | [d1, d2] => { results := [.lit (.bool true)], args := [d1, d2] }
  | _ => none }
def arenaKeepsRow : OpenClaim := { program := "ytmfpgbiicncpcaa", sum := "039ccbd7acfd2f312132a932279adfb372d76cd01d93df3c718ea06afbe6bfde", func := "burgeon/burgeonlaw04.ArenaKeeps", spec := "arenaKeeps", unfollowed := true, recurses := true, apart := false }
def ArenaKeepsSaid : Prop := arenaKeepsRow.holds Try.pinned (OpenSpec.ofChange arenaKeepsSpec)

/-- ITS FALSE NEIGHBOUR: 'it returns false'. Refute it at one input. -/
def arenaKeepsWrong : ChangeSpec := { name := "arenaKeeps", fn := fun _ => fun
  | [d1, d2] => { results := [.lit (.bool false)], args := [d1, d2] }
  | _ => none }
def ArenaKeepsWrongFalsely : Prop := arenaKeepsRow.holds Try.pinned (OpenSpec.ofChange arenaKeepsWrong)

/-- 'burgeonlaw04.ArenaReaches': WHATEVER THE INPUT: true; the input reads as it did. -/
def arenaReachesSpec : ChangeSpec := { name := "arenaReaches", fn := fun _ => fun
  | [d1, d2, d3] => { results := [.lit (.bool true)], args := [d1, d2, d3] }
  | _ => none }
def arenaReachesRow : OpenClaim := { program := "ytmfpgbiicncpcaa", sum := "039ccbd7acfd2f312132a932279adfb372d76cd01d93df3c718ea06afbe6bfde", func := "burgeon/burgeonlaw04.ArenaReaches", spec := "arenaReaches", unfollowed := true, recurses := true, apart := false }
def ArenaReachesSaid : Prop := arenaReachesRow.holds Try.pinned (OpenSpec.ofChange arenaReachesSpec)

/-- ITS FALSE NEIGHBOUR: 'it returns false'. Refute it at one input. -/
def arenaReachesWrong : ChangeSpec := { name := "arenaReaches", fn := fun _ => fun
  | [d1, d2, d3] => { results := [.lit (.bool false)], args := [d1, d2, d3] }
  | _ => none }
def ArenaReachesWrongFalsely : Prop := arenaReachesRow.holds Try.pinned (OpenSpec.ofChange arenaReachesWrong)

/-- 'burgeonlaw04.ArenaFills': WHATEVER THE INPUT: true; the input reads as it did. -/
def arenaFillsSpec : ChangeSpec := { name := "arenaFills", fn := fun _ => fun
  | [d] => { results := [.lit (.bool true)], args := [d] }
  | _ => none }
def arenaFillsRow : OpenClaim := { program := "ytmfpgbiicncpcaa", sum := "039ccbd7acfd2f312132a932279adfb372d76cd01d93df3c718ea06afbe6bfde", func := "burgeon/burgeonlaw04.ArenaFills", spec := "arenaFills", unfollowed := true, recurses := true, apart := false }
def ArenaFillsSaid : Prop := arenaFillsRow.holds Try.pinned (OpenSpec.ofChange arenaFillsSpec)

/-- ITS FALSE NEIGHBOUR: 'it returns false'. Refute it at one input. -/
def arenaFillsWrong : ChangeSpec := { name := "arenaFills", fn := fun _ => fun
  | [d] => { results := [.lit (.bool false)], args := [d] }
  | _ => none }
def ArenaFillsWrongFalsely : Prop := arenaFillsRow.holds Try.pinned (OpenSpec.ofChange arenaFillsWrong)

/-- 'burgeonlaw04.ArenaMakes': WHATEVER THE INPUT: true; the input reads as it did. -/
def arenaMakesSpec : ChangeSpec := { name := "arenaMakes", fn := fun _ => fun
  | [d1, d2, d3] => { results := [.lit (.bool true)], args := [d1, d2, d3] }
  | _ => none }
def arenaMakesRow : OpenClaim := { program := "ytmfpgbiicncpcaa", sum := "039ccbd7acfd2f312132a932279adfb372d76cd01d93df3c718ea06afbe6bfde", func := "burgeon/burgeonlaw04.ArenaMakes", spec := "arenaMakes", unfollowed := true, recurses := true, apart := false }
def ArenaMakesSaid : Prop := arenaMakesRow.holds Try.pinned (OpenSpec.ofChange arenaMakesSpec)

/-- ITS FALSE NEIGHBOUR: 'it returns false'. Refute it at one input. -/
def arenaMakesWrong : ChangeSpec := { name := "arenaMakes", fn := fun _ => fun
  | [d1, d2, d3] => { results := [.lit (.bool false)], args := [d1, d2, d3] }
  | _ => none }
def ArenaMakesWrongFalsely : Prop := arenaMakesRow.holds Try.pinned (OpenSpec.ofChange arenaMakesWrong)

/- THE SECOND FORM. 'bulk': how many values and letters a reading holds, each counted each time it is reached (what is shared counts as often as it is met; a slice's spare places count too). A statement '..UptoSaid' is the law's where the arguments, and the package variables that the reading takes, are together of bulk at most 1048576: NARROWER than '..Said'. Prove '..Said' where nothing that the law and all that it calls make is longer than what came in: it says more and counts as full. Else prove '..UptoSaid'. A law counts once. -/
mutual
def uptoBulk {H : Type} : DataW H → Nat
  | .lit (.string bytes) => bytes.length + 1
  | .lit _ => 1
  | .nil => 1
  | .ptr d => uptoBulk d + 1
  | .slice elems spare => uptoBulkAll elems + uptoBulkAll spare + 1
  | .agg parts => uptoBulkAll parts + 1
  | .iface _ d => uptoBulk d + 1
  | .map entries => uptoBulkEntries entries + 1
  | .held _ => 1
def uptoBulkAll {H : Type} : List (DataW H) → Nat
  | [] => 0
  | d :: r => uptoBulk d + uptoBulkAll r
def uptoBulkEntries {H : Type} : List (Lit × DataW H) → Nat
  | [] => 0
  | x :: r => uptoBulkEntry x + uptoBulkEntries r
def uptoBulkEntry {H : Type} : Lit × DataW H → Nat
  | (.string bytes, d) => bytes.length + uptoBulk d + 1
  | (_, d) => uptoBulk d + 1
 end
def uptoSmall : (H : Type) → List (DataW H) → Bool := fun _ ds => decide (uptoBulkAll ds ≤ 1048576)
def OpenSpec.upto (s : _root_.Go.ChangeSpec) : _root_.Go.OpenSpec := { _root_.Go.OpenSpec.ofChange s with cond := some uptoSmall }

/-- 'burgeonlaw04.ArenaCalls', WHERE WHAT IT READS IS OF BULK AT MOST 1048576: true; the input reads as it did. -/
def arenaCallsUptoRow : OpenClaim := { program := "ytmfpgbiicncpcaa", sum := "039ccbd7acfd2f312132a932279adfb372d76cd01d93df3c718ea06afbe6bfde", func := "burgeon/burgeonlaw04.ArenaCalls", spec := "arenaCalls", unfollowed := true, recurses := true, apart := false, narrowed := true }
def ArenaCallsUptoSaid : Prop := arenaCallsUptoRow.holds Try.pinned (OpenSpec.upto arenaCallsSpec)

/-- 'burgeonlaw04.ArenaDrops', WHERE WHAT IT READS IS OF BULK AT MOST 1048576: true; the input reads as it did. -/
def arenaDropsUptoRow : OpenClaim := { program := "ytmfpgbiicncpcaa", sum := "039ccbd7acfd2f312132a932279adfb372d76cd01d93df3c718ea06afbe6bfde", func := "burgeon/burgeonlaw04.ArenaDrops", spec := "arenaDrops", unfollowed := true, recurses := true, apart := false, narrowed := true }
def ArenaDropsUptoSaid : Prop := arenaDropsUptoRow.holds Try.pinned (OpenSpec.upto arenaDropsSpec)

/-- 'burgeonlaw04.ArenaKeeps', WHERE WHAT IT READS IS OF BULK AT MOST 1048576: true; the input reads as it did. -/
def arenaKeepsUptoRow : OpenClaim := { program := "ytmfpgbiicncpcaa", sum := "039ccbd7acfd2f312132a932279adfb372d76cd01d93df3c718ea06afbe6bfde", func := "burgeon/burgeonlaw04.ArenaKeeps", spec := "arenaKeeps", unfollowed := true, recurses := true, apart := false, narrowed := true }
def ArenaKeepsUptoSaid : Prop := arenaKeepsUptoRow.holds Try.pinned (OpenSpec.upto arenaKeepsSpec)

/-- 'burgeonlaw04.ArenaReaches', WHERE WHAT IT READS IS OF BULK AT MOST 1048576: true; the input reads as it did. -/
def arenaReachesUptoRow : OpenClaim := { program := "ytmfpgbiicncpcaa", sum := "039ccbd7acfd2f312132a932279adfb372d76cd01d93df3c718ea06afbe6bfde", func := "burgeon/burgeonlaw04.ArenaReaches", spec := "arenaReaches", unfollowed := true, recurses := true, apart := false, narrowed := true }
def ArenaReachesUptoSaid : Prop := arenaReachesUptoRow.holds Try.pinned (OpenSpec.upto arenaReachesSpec)

/-- 'burgeonlaw04.ArenaFills', WHERE WHAT IT READS IS OF BULK AT MOST 1048576: true; the input reads as it did. -/
def arenaFillsUptoRow : OpenClaim := { program := "ytmfpgbiicncpcaa", sum := "039ccbd7acfd2f312132a932279adfb372d76cd01d93df3c718ea06afbe6bfde", func := "burgeon/burgeonlaw04.ArenaFills", spec := "arenaFills", unfollowed := true, recurses := true, apart := false, narrowed := true }
def ArenaFillsUptoSaid : Prop := arenaFillsUptoRow.holds Try.pinned (OpenSpec.upto arenaFillsSpec)

/-- 'burgeonlaw04.ArenaMakes', WHERE WHAT IT READS IS OF BULK AT MOST 1048576: true; the input reads as it did. -/
def arenaMakesUptoRow : OpenClaim := { program := "ytmfpgbiicncpcaa", sum := "039ccbd7acfd2f312132a932279adfb372d76cd01d93df3c718ea06afbe6bfde", func := "burgeon/burgeonlaw04.ArenaMakes", spec := "arenaMakes", unfollowed := true, recurses := true, apart := false, narrowed := true }
def ArenaMakesUptoSaid : Prop := arenaMakesUptoRow.holds Try.pinned (OpenSpec.upto arenaMakesSpec)

end Rows
end Go.Proofs.Ytmfpgbiicncpcaa
