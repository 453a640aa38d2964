/-
  No cell of these rows narrows 'for every input' (looked for: loops, veiled, ifaces, maps, wideKeys, modest, calm, conditions, laid).
  DERIVED. THE GIVEN ROWS OF THIS SEAT. 3 by the template 'for every input the law returns true; each argument reads behind the call as it read before'; 0 by the template 'total and deterministic' (their statements: YtmjddnnjjmnddaeTotals.lean).
  GIVEN WITH THE SEED: the statements are not yours to turn. If you find one false, say at which input.
  Laid BY PROGRAM, IN A SANDBOX (cutbox-rows.mjs): the forced cells as the released guide's own fill.sh prints them over the translation 0b2fed273c6aa3df… (all of the seat's roots in one cut). By AI agents, Wed Nov 11 2026. No macro, syntax, notation, axiom, sorry.
-/
import Derived.Test.YtmjddnnjjmnddaeChecked
import GoSem.Claim
import GoSem.ClaimJoined
import GoSem.ClaimMapViews
import Derived.JoinedTies
import Derived.KernelRfl
namespace Go.Proofs.Ytmjddnnjjmnddae
/- THE CELL 'sum', in the pinned program and in every row, IS THE sha256 OF THE DUMP (.gsa) THAT YtmjddnnjjmnddaeProg.lean LOADS. Nothing in Lean hashes anything: it is a label: what it is worth is what the hold of that sum in a sandbox is worth. -/
noncomputable def Try.pinned : Pinned := { name := "ytmjddnnjjmnddae", sum := "0b2fed273c6aa3df3a08951062a12202f415b294502a635b7083fe0f72aa3b4f", checked := Try.checked }
namespace Rows
def none {H : Type} : Left H := { results := [], args := [] }

/-- 'stamplaw6.AgentTwice': WHATEVER THE INPUT: true; the input reads as it did. -/
def agentTwiceSpec : ChangeSpec := { name := "agentTwice", fn := fun _ => fun
  | [d1, d2] => { results := [.lit (.bool true)], args := [d1, d2] }
  | _ => none }
def agentTwiceRow : OpenClaim := { program := "ytmjddnnjjmnddae", sum := "0b2fed273c6aa3df3a08951062a12202f415b294502a635b7083fe0f72aa3b4f", func := "stampways/stamplaw6.AgentTwice", spec := "agentTwice", unfollowed := true, recurses := true, apart := false }
def AgentTwiceSaid : Prop := agentTwiceRow.holds Try.pinned (OpenSpec.ofChange agentTwiceSpec)

/-- ITS FALSE NEIGHBOUR: 'it returns false'. Refute it at one input. -/
def agentTwiceWrong : ChangeSpec := { name := "agentTwice", fn := fun _ => fun
  | [d1, d2] => { results := [.lit (.bool false)], args := [d1, d2] }
  | _ => none }
def AgentTwiceWrongFalsely : Prop := agentTwiceRow.holds Try.pinned (OpenSpec.ofChange agentTwiceWrong)

/-- 'stamplaw6.AgentGone': WHATEVER THE INPUT: true; the input reads as it did. -/
def agentGoneSpec : ChangeSpec := { name := "agentGone", fn := fun _ => fun
  | [d1, d2, d3] => { results := [.lit (.bool true)], args := [d1, d2, d3] }
  | _ => none }
def agentGoneRow : OpenClaim := { program := "ytmjddnnjjmnddae", sum := "0b2fed273c6aa3df3a08951062a12202f415b294502a635b7083fe0f72aa3b4f", func := "stampways/stamplaw6.AgentGone", spec := "agentGone", unfollowed := true, recurses := true, apart := false }
def AgentGoneSaid : Prop := agentGoneRow.holds Try.pinned (OpenSpec.ofChange agentGoneSpec)

/-- ITS FALSE NEIGHBOUR: 'it returns false'. Refute it at one input. -/
def agentGoneWrong : ChangeSpec := { name := "agentGone", fn := fun _ => fun
  | [d1, d2, d3] => { results := [.lit (.bool false)], args := [d1, d2, d3] }
  | _ => none }
def AgentGoneWrongFalsely : Prop := agentGoneRow.holds Try.pinned (OpenSpec.ofChange agentGoneWrong)

/-- 'stamplaw6.AgentOrder': WHATEVER THE INPUT: true; the input reads as it did. -/
def agentOrderSpec : ChangeSpec := { name := "agentOrder", fn := fun _ => fun
  | [d1, d2, d3] => { results := [.lit (.bool true)], args := [d1, d2, d3] }
  | _ => none }
def agentOrderRow : OpenClaim := { program := "ytmjddnnjjmnddae", sum := "0b2fed273c6aa3df3a08951062a12202f415b294502a635b7083fe0f72aa3b4f", func := "stampways/stamplaw6.AgentOrder", spec := "agentOrder", unfollowed := true, recurses := true, apart := false }
def AgentOrderSaid : Prop := agentOrderRow.holds Try.pinned (OpenSpec.ofChange agentOrderSpec)

/-- ITS FALSE NEIGHBOUR: 'it returns false'. Refute it at one input. -/
def agentOrderWrong : ChangeSpec := { name := "agentOrder", fn := fun _ => fun
  | [d1, d2, d3] => { results := [.lit (.bool false)], args := [d1, d2, d3] }
  | _ => none }
def AgentOrderWrongFalsely : Prop := agentOrderRow.holds Try.pinned (OpenSpec.ofChange agentOrderWrong)

/- THE SECOND FORM. 'bulk': how many values and letters a reading holds, each counted each time it is reached (what is shared counts as often as it is met; a slice's spare places count too). A statement '..UptoSaid' is the law's where the arguments, and the package variables that the reading takes, are together of bulk at most 1048576: NARROWER than '..Said'. Prove '..Said' where nothing that the law and all that it calls make is longer than what came in: it says more and counts as full. Else prove '..UptoSaid'. A law counts once. -/
mutual
def uptoBulk {H : Type} : DataW H → Nat
  | .lit (.string bytes) => bytes.length + 1
  | .lit _ => 1
  | .nil => 1
  | .ptr d => uptoBulk d + 1
  | .slice elems spare => uptoBulkAll elems + uptoBulkAll spare + 1
  | .agg parts => uptoBulkAll parts + 1
  | .iface _ d => uptoBulk d + 1
  | .map entries => uptoBulkEntries entries + 1
  | .held _ => 1
def uptoBulkAll {H : Type} : List (DataW H) → Nat
  | [] => 0
  | d :: r => uptoBulk d + uptoBulkAll r
def uptoBulkEntries {H : Type} : List (Lit × DataW H) → Nat
  | [] => 0
  | x :: r => uptoBulkEntry x + uptoBulkEntries r
def uptoBulkEntry {H : Type} : Lit × DataW H → Nat
  | (.string bytes, d) => bytes.length + uptoBulk d + 1
  | (_, d) => uptoBulk d + 1
 end
def uptoSmall : (H : Type) → List (DataW H) → Bool := fun _ ds => decide (uptoBulkAll ds ≤ 1048576)
def OpenSpec.upto (s : _root_.Go.ChangeSpec) : _root_.Go.OpenSpec := { _root_.Go.OpenSpec.ofChange s with cond := some uptoSmall }

/-- 'stamplaw6.AgentTwice', WHERE WHAT IT READS IS OF BULK AT MOST 1048576: true; the input reads as it did. -/
def agentTwiceUptoRow : OpenClaim := { program := "ytmjddnnjjmnddae", sum := "0b2fed273c6aa3df3a08951062a12202f415b294502a635b7083fe0f72aa3b4f", func := "stampways/stamplaw6.AgentTwice", spec := "agentTwice", unfollowed := true, recurses := true, apart := false, narrowed := true }
def AgentTwiceUptoSaid : Prop := agentTwiceUptoRow.holds Try.pinned (OpenSpec.upto agentTwiceSpec)

/-- 'stamplaw6.AgentGone', WHERE WHAT IT READS IS OF BULK AT MOST 1048576: true; the input reads as it did. -/
def agentGoneUptoRow : OpenClaim := { program := "ytmjddnnjjmnddae", sum := "0b2fed273c6aa3df3a08951062a12202f415b294502a635b7083fe0f72aa3b4f", func := "stampways/stamplaw6.AgentGone", spec := "agentGone", unfollowed := true, recurses := true, apart := false, narrowed := true }
def AgentGoneUptoSaid : Prop := agentGoneUptoRow.holds Try.pinned (OpenSpec.upto agentGoneSpec)

/-- 'stamplaw6.AgentOrder', WHERE WHAT IT READS IS OF BULK AT MOST 1048576: true; the input reads as it did. -/
def agentOrderUptoRow : OpenClaim := { program := "ytmjddnnjjmnddae", sum := "0b2fed273c6aa3df3a08951062a12202f415b294502a635b7083fe0f72aa3b4f", func := "stampways/stamplaw6.AgentOrder", spec := "agentOrder", unfollowed := true, recurses := true, apart := false, narrowed := true }
def AgentOrderUptoSaid : Prop := agentOrderUptoRow.holds Try.pinned (OpenSpec.upto agentOrderSpec)

end Rows
end Go.Proofs.Ytmjddnnjjmnddae
