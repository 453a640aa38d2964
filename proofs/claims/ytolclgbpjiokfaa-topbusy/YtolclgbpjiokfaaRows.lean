/-
  No cell of these rows narrows 'for every input' (looked for: loops, veiled, ifaces, maps, wideKeys, modest, calm, conditions, laid).
  DERIVED. THE GIVEN ROWS OF THIS SEAT. 14 by the template 'for every input the law returns true; each argument reads behind the call as it read before'; 0 by the template 'total and deterministic' (their statements: YtolclgbpjiokfaaTotals.lean).
  GIVEN WITH THE SEED: the statements are not yours to turn. If you find one false, say at which input.
  Laid BY PROGRAM, IN A SANDBOX (cutbox-rows.mjs): the forced cells as the released guide's own fill.sh prints them over the translation 65c5ad4e6496f792… (all of the seat's roots in one cut). By AI agents, Wed Nov 11 2026. No macro, syntax, notation, axiom, sorry.
-/
import Derived.Test.YtolclgbpjiokfaaChecked
import GoSem.Claim
import GoSem.ClaimJoined
import GoSem.ClaimMapViews
import Derived.JoinedTies
import Derived.KernelRfl
namespace Go.Proofs.Ytolclgbpjiokfaa
/- THE CELL 'sum', in the pinned program and in every row, IS THE sha256 OF THE DUMP (.gsa) THAT YtolclgbpjiokfaaProg.lean LOADS. Nothing in Lean hashes anything: it is a label: what it is worth is what the hold of that sum in a sandbox is worth. -/
noncomputable def Try.pinned : Pinned := { name := "ytolclgbpjiokfaa", sum := "65c5ad4e6496f7927eeae8e18b21aaf4563566a7d43e4882de45a9f0855b4d2d", checked := Try.checked }
namespace Rows
def none {H : Type} : Left H := { results := [], args := [] }

/-- 'stamplaw8.RoomPaths': WHATEVER THE INPUT: true; the input reads as it did. -/
def roomPathsSpec : ChangeSpec := { name := "roomPaths", fn := fun _ => fun
  | [d1, d2] => { results := [.lit (.bool true)], args := [d1, d2] }
  | _ => none }
def roomPathsRow : OpenClaim := { program := "ytolclgbpjiokfaa", sum := "65c5ad4e6496f7927eeae8e18b21aaf4563566a7d43e4882de45a9f0855b4d2d", func := "stampways/stamplaw8.RoomPaths", spec := "roomPaths", unfollowed := true, recurses := true, plainKeys := false, apart := false }
def RoomPathsSaid : Prop := roomPathsRow.holds Try.pinned (OpenSpec.ofChange roomPathsSpec)

/-- ITS FALSE NEIGHBOUR: 'it returns false'. Refute it at one input. -/
def roomPathsWrong : ChangeSpec := { name := "roomPaths", fn := fun _ => fun
  | [d1, d2] => { results := [.lit (.bool false)], args := [d1, d2] }
  | _ => none }
def RoomPathsWrongFalsely : Prop := roomPathsRow.holds Try.pinned (OpenSpec.ofChange roomPathsWrong)

/-- 'stamplaw8.RoomPlans': WHATEVER THE INPUT: true; the input reads as it did. -/
def roomPlansSpec : ChangeSpec := { name := "roomPlans", fn := fun _ => fun
  | [d1, d2] => { results := [.lit (.bool true)], args := [d1, d2] }
  | _ => none }
def roomPlansRow : OpenClaim := { program := "ytolclgbpjiokfaa", sum := "65c5ad4e6496f7927eeae8e18b21aaf4563566a7d43e4882de45a9f0855b4d2d", func := "stampways/stamplaw8.RoomPlans", spec := "roomPlans", unfollowed := true, recurses := true, plainKeys := false, apart := false }
def RoomPlansSaid : Prop := roomPlansRow.holds Try.pinned (OpenSpec.ofChange roomPlansSpec)

/-- ITS FALSE NEIGHBOUR: 'it returns false'. Refute it at one input. -/
def roomPlansWrong : ChangeSpec := { name := "roomPlans", fn := fun _ => fun
  | [d1, d2] => { results := [.lit (.bool false)], args := [d1, d2] }
  | _ => none }
def RoomPlansWrongFalsely : Prop := roomPlansRow.holds Try.pinned (OpenSpec.ofChange roomPlansWrong)

/-- 'stamplaw8.RoomFull': WHATEVER THE INPUT: true; the input reads as it did. -/
def roomFullSpec : ChangeSpec := { name := "roomFull", fn := fun _ => fun
  | [d1, d2] => { results := [.lit (.bool true)], args := [d1, d2] }
  | _ => none }
def roomFullRow : OpenClaim := { program := "ytolclgbpjiokfaa", sum := "65c5ad4e6496f7927eeae8e18b21aaf4563566a7d43e4882de45a9f0855b4d2d", func := "stampways/stamplaw8.RoomFull", spec := "roomFull", unfollowed := true, recurses := true, plainKeys := false, apart := false }
def RoomFullSaid : Prop := roomFullRow.holds Try.pinned (OpenSpec.ofChange roomFullSpec)

/-- ITS FALSE NEIGHBOUR: 'it returns false'. Refute it at one input. -/
def roomFullWrong : ChangeSpec := { name := "roomFull", fn := fun _ => fun
  | [d1, d2] => { results := [.lit (.bool false)], args := [d1, d2] }
  | _ => none }
def RoomFullWrongFalsely : Prop := roomFullRow.holds Try.pinned (OpenSpec.ofChange roomFullWrong)

/-- 'stamplaw8.RoomSettles': WHATEVER THE INPUT: true; the input reads as it did. -/
def roomSettlesSpec : ChangeSpec := { name := "roomSettles", fn := fun _ => fun
  | [d1, d2] => { results := [.lit (.bool true)], args := [d1, d2] }
  | _ => none }
def roomSettlesRow : OpenClaim := { program := "ytolclgbpjiokfaa", sum := "65c5ad4e6496f7927eeae8e18b21aaf4563566a7d43e4882de45a9f0855b4d2d", func := "stampways/stamplaw8.RoomSettles", spec := "roomSettles", unfollowed := true, recurses := true, plainKeys := false, apart := false }
def RoomSettlesSaid : Prop := roomSettlesRow.holds Try.pinned (OpenSpec.ofChange roomSettlesSpec)

/-- ITS FALSE NEIGHBOUR: 'it returns false'. Refute it at one input. -/
def roomSettlesWrong : ChangeSpec := { name := "roomSettles", fn := fun _ => fun
  | [d1, d2] => { results := [.lit (.bool false)], args := [d1, d2] }
  | _ => none }
def RoomSettlesWrongFalsely : Prop := roomSettlesRow.holds Try.pinned (OpenSpec.ofChange roomSettlesWrong)

/-- 'stamplaw8.RoomArrives': WHATEVER THE INPUT: true; the input reads as it did. -/
def roomArrivesSpec : ChangeSpec := { name := "roomArrives", fn := fun _ => fun
  | [d1, d2, d3] => { results := [.lit (.bool true)], args := [d1, d2, d3] }
  | _ => none }
def roomArrivesRow : OpenClaim := { program := "ytolclgbpjiokfaa", sum := "65c5ad4e6496f7927eeae8e18b21aaf4563566a7d43e4882de45a9f0855b4d2d", func := "stampways/stamplaw8.RoomArrives", spec := "roomArrives", unfollowed := true, recurses := true, plainKeys := false, apart := false }
def RoomArrivesSaid : Prop := roomArrivesRow.holds Try.pinned (OpenSpec.ofChange roomArrivesSpec)

/-- ITS FALSE NEIGHBOUR: 'it returns false'. Refute it at one input. -/
def roomArrivesWrong : ChangeSpec := { name := "roomArrives", fn := fun _ => fun
  | [d1, d2, d3] => { results := [.lit (.bool false)], args := [d1, d2, d3] }
  | _ => none }
def RoomArrivesWrongFalsely : Prop := roomArrivesRow.holds Try.pinned (OpenSpec.ofChange roomArrivesWrong)

/-- 'stamplaw8.RoomNever': WHATEVER THE INPUT: true; the input reads as it did. -/
def roomNeverSpec : ChangeSpec := { name := "roomNever", fn := fun _ => fun
  | [d1, d2] => { results := [.lit (.bool true)], args := [d1, d2] }
  | _ => none }
def roomNeverRow : OpenClaim := { program := "ytolclgbpjiokfaa", sum := "65c5ad4e6496f7927eeae8e18b21aaf4563566a7d43e4882de45a9f0855b4d2d", func := "stampways/stamplaw8.RoomNever", spec := "roomNever", unfollowed := true, recurses := true, plainKeys := false, apart := false }
def RoomNeverSaid : Prop := roomNeverRow.holds Try.pinned (OpenSpec.ofChange roomNeverSpec)

/-- ITS FALSE NEIGHBOUR: 'it returns false'. Refute it at one input. -/
def roomNeverWrong : ChangeSpec := { name := "roomNever", fn := fun _ => fun
  | [d1, d2] => { results := [.lit (.bool false)], args := [d1, d2] }
  | _ => none }
def RoomNeverWrongFalsely : Prop := roomNeverRow.holds Try.pinned (OpenSpec.ofChange roomNeverWrong)

/-- 'stamplaw8.RoomStamps': WHATEVER THE INPUT: true; the input reads as it did. -/
def roomStampsSpec : ChangeSpec := { name := "roomStamps", fn := fun _ => fun
  | [d1, d2] => { results := [.lit (.bool true)], args := [d1, d2] }
  | _ => none }
def roomStampsRow : OpenClaim := { program := "ytolclgbpjiokfaa", sum := "65c5ad4e6496f7927eeae8e18b21aaf4563566a7d43e4882de45a9f0855b4d2d", func := "stampways/stamplaw8.RoomStamps", spec := "roomStamps", unfollowed := true, recurses := true, plainKeys := false, apart := false }
def RoomStampsSaid : Prop := roomStampsRow.holds Try.pinned (OpenSpec.ofChange roomStampsSpec)

/-- ITS FALSE NEIGHBOUR: 'it returns false'. Refute it at one input. -/
def roomStampsWrong : ChangeSpec := { name := "roomStamps", fn := fun _ => fun
  | [d1, d2] => { results := [.lit (.bool false)], args := [d1, d2] }
  | _ => none }
def RoomStampsWrongFalsely : Prop := roomStampsRow.holds Try.pinned (OpenSpec.ofChange roomStampsWrong)

/-- 'stamplaw8.RoomPast': WHATEVER THE INPUT: true; the input reads as it did. -/
def roomPastSpec : ChangeSpec := { name := "roomPast", fn := fun _ => fun
  | [d1, d2, d3] => { results := [.lit (.bool true)], args := [d1, d2, d3] }
  | _ => none }
def roomPastRow : OpenClaim := { program := "ytolclgbpjiokfaa", sum := "65c5ad4e6496f7927eeae8e18b21aaf4563566a7d43e4882de45a9f0855b4d2d", func := "stampways/stamplaw8.RoomPast", spec := "roomPast", unfollowed := true, recurses := true, plainKeys := false, apart := false }
def RoomPastSaid : Prop := roomPastRow.holds Try.pinned (OpenSpec.ofChange roomPastSpec)

/-- ITS FALSE NEIGHBOUR: 'it returns false'. Refute it at one input. -/
def roomPastWrong : ChangeSpec := { name := "roomPast", fn := fun _ => fun
  | [d1, d2, d3] => { results := [.lit (.bool false)], args := [d1, d2, d3] }
  | _ => none }
def RoomPastWrongFalsely : Prop := roomPastRow.holds Try.pinned (OpenSpec.ofChange roomPastWrong)

/-- 'stamptop.TopTwo': WHATEVER THE INPUT: true; the input reads as it did. -/
def topTwoSpec : ChangeSpec := { name := "topTwo", fn := fun _ => fun
  | [d1, d2, d3, d4, d5] => { results := [.lit (.bool true)], args := [d1, d2, d3, d4, d5] }
  | _ => none }
def topTwoRow : OpenClaim := { program := "ytolclgbpjiokfaa", sum := "65c5ad4e6496f7927eeae8e18b21aaf4563566a7d43e4882de45a9f0855b4d2d", func := "stampways/stamptop.TopTwo", spec := "topTwo", unfollowed := true, recurses := true, plainKeys := false, apart := false }
def TopTwoSaid : Prop := topTwoRow.holds Try.pinned (OpenSpec.ofChange topTwoSpec)

/-- ITS FALSE NEIGHBOUR: 'it returns false'. Refute it at one input. -/
def topTwoWrong : ChangeSpec := { name := "topTwo", fn := fun _ => fun
  | [d1, d2, d3, d4, d5] => { results := [.lit (.bool false)], args := [d1, d2, d3, d4, d5] }
  | _ => none }
def TopTwoWrongFalsely : Prop := topTwoRow.holds Try.pinned (OpenSpec.ofChange topTwoWrong)

/-- 'stamptop.TopFull': WHATEVER THE INPUT: true; the input reads as it did. -/
def topFullSpec : ChangeSpec := { name := "topFull", fn := fun _ => fun
  | [d1, d2] => { results := [.lit (.bool true)], args := [d1, d2] }
  | _ => none }
def topFullRow : OpenClaim := { program := "ytolclgbpjiokfaa", sum := "65c5ad4e6496f7927eeae8e18b21aaf4563566a7d43e4882de45a9f0855b4d2d", func := "stampways/stamptop.TopFull", spec := "topFull", unfollowed := true, recurses := true, plainKeys := false, apart := false }
def TopFullSaid : Prop := topFullRow.holds Try.pinned (OpenSpec.ofChange topFullSpec)

/-- ITS FALSE NEIGHBOUR: 'it returns false'. Refute it at one input. -/
def topFullWrong : ChangeSpec := { name := "topFull", fn := fun _ => fun
  | [d1, d2] => { results := [.lit (.bool false)], args := [d1, d2] }
  | _ => none }
def TopFullWrongFalsely : Prop := topFullRow.holds Try.pinned (OpenSpec.ofChange topFullWrong)

/-- 'stamptop.TopBusy': WHATEVER THE INPUT: true; the input reads as it did. -/
def topBusySpec : ChangeSpec := { name := "topBusy", fn := fun _ => fun
  | [d1, d2, d3, d4] => { results := [.lit (.bool true)], args := [d1, d2, d3, d4] }
  | _ => none }
def topBusyRow : OpenClaim := { program := "ytolclgbpjiokfaa", sum := "65c5ad4e6496f7927eeae8e18b21aaf4563566a7d43e4882de45a9f0855b4d2d", func := "stampways/stamptop.TopBusy", spec := "topBusy", unfollowed := true, recurses := true, plainKeys := false, apart := false }
def TopBusySaid : Prop := topBusyRow.holds Try.pinned (OpenSpec.ofChange topBusySpec)

/-- ITS FALSE NEIGHBOUR: 'it returns false'. Refute it at one input. -/
def topBusyWrong : ChangeSpec := { name := "topBusy", fn := fun _ => fun
  | [d1, d2, d3, d4] => { results := [.lit (.bool false)], args := [d1, d2, d3, d4] }
  | _ => none }
def TopBusyWrongFalsely : Prop := topBusyRow.holds Try.pinned (OpenSpec.ofChange topBusyWrong)

/-- 'stamptop.TopLine': WHATEVER THE INPUT: true; the input reads as it did. -/
def topLineSpec : ChangeSpec := { name := "topLine", fn := fun _ => fun
  | [d1, d2, d3] => { results := [.lit (.bool true)], args := [d1, d2, d3] }
  | _ => none }
def topLineRow : OpenClaim := { program := "ytolclgbpjiokfaa", sum := "65c5ad4e6496f7927eeae8e18b21aaf4563566a7d43e4882de45a9f0855b4d2d", func := "stampways/stamptop.TopLine", spec := "topLine", unfollowed := true, recurses := true, plainKeys := false, apart := false }
def TopLineSaid : Prop := topLineRow.holds Try.pinned (OpenSpec.ofChange topLineSpec)

/-- ITS FALSE NEIGHBOUR: 'it returns false'. Refute it at one input. -/
def topLineWrong : ChangeSpec := { name := "topLine", fn := fun _ => fun
  | [d1, d2, d3] => { results := [.lit (.bool false)], args := [d1, d2, d3] }
  | _ => none }
def TopLineWrongFalsely : Prop := topLineRow.holds Try.pinned (OpenSpec.ofChange topLineWrong)

/-- 'stamptop.TopAvoid': WHATEVER THE INPUT: true; the input reads as it did. -/
def topAvoidSpec : ChangeSpec := { name := "topAvoid", fn := fun _ => fun
  | [d1, d2, d3] => { results := [.lit (.bool true)], args := [d1, d2, d3] }
  | _ => none }
def topAvoidRow : OpenClaim := { program := "ytolclgbpjiokfaa", sum := "65c5ad4e6496f7927eeae8e18b21aaf4563566a7d43e4882de45a9f0855b4d2d", func := "stampways/stamptop.TopAvoid", spec := "topAvoid", unfollowed := true, recurses := true, plainKeys := false, apart := false }
def TopAvoidSaid : Prop := topAvoidRow.holds Try.pinned (OpenSpec.ofChange topAvoidSpec)

/-- ITS FALSE NEIGHBOUR: 'it returns false'. Refute it at one input. -/
def topAvoidWrong : ChangeSpec := { name := "topAvoid", fn := fun _ => fun
  | [d1, d2, d3] => { results := [.lit (.bool false)], args := [d1, d2, d3] }
  | _ => none }
def TopAvoidWrongFalsely : Prop := topAvoidRow.holds Try.pinned (OpenSpec.ofChange topAvoidWrong)

/-- 'stamptop.TopMany': WHATEVER THE INPUT: true; the input reads as it did. -/
def topManySpec : ChangeSpec := { name := "topMany", fn := fun _ => fun
  | [d1, d2, d3, d4] => { results := [.lit (.bool true)], args := [d1, d2, d3, d4] }
  | _ => none }
def topManyRow : OpenClaim := { program := "ytolclgbpjiokfaa", sum := "65c5ad4e6496f7927eeae8e18b21aaf4563566a7d43e4882de45a9f0855b4d2d", func := "stampways/stamptop.TopMany", spec := "topMany", unfollowed := true, recurses := true, plainKeys := false, apart := false }
def TopManySaid : Prop := topManyRow.holds Try.pinned (OpenSpec.ofChange topManySpec)

/-- ITS FALSE NEIGHBOUR: 'it returns false'. Refute it at one input. -/
def topManyWrong : ChangeSpec := { name := "topMany", fn := fun _ => fun
  | [d1, d2, d3, d4] => { results := [.lit (.bool false)], args := [d1, d2, d3, d4] }
  | _ => none }
def TopManyWrongFalsely : Prop := topManyRow.holds Try.pinned (OpenSpec.ofChange topManyWrong)

/- THE SECOND FORM. 'bulk': how many values and letters a reading holds, each counted each time it is reached (what is shared counts as often as it is met; a slice's spare places count too). A statement '..UptoSaid' is the law's where the arguments, and the package variables that the reading takes, are together of bulk at most 1048576: NARROWER than '..Said'. Prove '..Said' where nothing that the law and all that it calls make is longer than what came in: it says more and counts as full. Else prove '..UptoSaid'. A law counts once. -/
mutual
def uptoBulk {H : Type} : DataW H → Nat
  | .lit (.string bytes) => bytes.length + 1
  | .lit _ => 1
  | .nil => 1
  | .ptr d => uptoBulk d + 1
  | .slice elems spare => uptoBulkAll elems + uptoBulkAll spare + 1
  | .agg parts => uptoBulkAll parts + 1
  | .iface _ d => uptoBulk d + 1
  | .map entries => uptoBulkEntries entries + 1
  | .held _ => 1
def uptoBulkAll {H : Type} : List (DataW H) → Nat
  | [] => 0
  | d :: r => uptoBulk d + uptoBulkAll r
def uptoBulkEntries {H : Type} : List (Lit × DataW H) → Nat
  | [] => 0
  | x :: r => uptoBulkEntry x + uptoBulkEntries r
def uptoBulkEntry {H : Type} : Lit × DataW H → Nat
  | (.string bytes, d) => bytes.length + uptoBulk d + 1
  | (_, d) => uptoBulk d + 1
 end
def uptoSmall : (H : Type) → List (DataW H) → Bool := fun _ ds => decide (uptoBulkAll ds ≤ 1048576)
def OpenSpec.upto (s : _root_.Go.ChangeSpec) : _root_.Go.OpenSpec := { _root_.Go.OpenSpec.ofChange s with cond := some uptoSmall }

/-- 'stamplaw8.RoomPaths', WHERE WHAT IT READS IS OF BULK AT MOST 1048576: true; the input reads as it did. -/
def roomPathsUptoRow : OpenClaim := { program := "ytolclgbpjiokfaa", sum := "65c5ad4e6496f7927eeae8e18b21aaf4563566a7d43e4882de45a9f0855b4d2d", func := "stampways/stamplaw8.RoomPaths", spec := "roomPaths", unfollowed := true, recurses := true, plainKeys := false, apart := false, narrowed := true }
def RoomPathsUptoSaid : Prop := roomPathsUptoRow.holds Try.pinned (OpenSpec.upto roomPathsSpec)

/-- 'stamplaw8.RoomPlans', WHERE WHAT IT READS IS OF BULK AT MOST 1048576: true; the input reads as it did. -/
def roomPlansUptoRow : OpenClaim := { program := "ytolclgbpjiokfaa", sum := "65c5ad4e6496f7927eeae8e18b21aaf4563566a7d43e4882de45a9f0855b4d2d", func := "stampways/stamplaw8.RoomPlans", spec := "roomPlans", unfollowed := true, recurses := true, plainKeys := false, apart := false, narrowed := true }
def RoomPlansUptoSaid : Prop := roomPlansUptoRow.holds Try.pinned (OpenSpec.upto roomPlansSpec)

/-- 'stamplaw8.RoomFull', WHERE WHAT IT READS IS OF BULK AT MOST 1048576: true; the input reads as it did. -/
def roomFullUptoRow : OpenClaim := { program := "ytolclgbpjiokfaa", sum := "65c5ad4e6496f7927eeae8e18b21aaf4563566a7d43e4882de45a9f0855b4d2d", func := "stampways/stamplaw8.RoomFull", spec := "roomFull", unfollowed := true, recurses := true, plainKeys := false, apart := false, narrowed := true }
def RoomFullUptoSaid : Prop := roomFullUptoRow.holds Try.pinned (OpenSpec.upto roomFullSpec)

/-- 'stamplaw8.RoomSettles', WHERE WHAT IT READS IS OF BULK AT MOST 1048576: true; the input reads as it did. -/
def roomSettlesUptoRow : OpenClaim := { program := "ytolclgbpjiokfaa", sum := "65c5ad4e6496f7927eeae8e18b21aaf4563566a7d43e4882de45a9f0855b4d2d", func := "stampways/stamplaw8.RoomSettles", spec := "roomSettles", unfollowed := true, recurses := true, plainKeys := false, apart := false, narrowed := true }
def RoomSettlesUptoSaid : Prop := roomSettlesUptoRow.holds Try.pinned (OpenSpec.upto roomSettlesSpec)

/-- 'stamplaw8.RoomArrives', WHERE WHAT IT READS IS OF BULK AT MOST 1048576: true; the input reads as it did. -/
def roomArrivesUptoRow : OpenClaim := { program := "ytolclgbpjiokfaa", sum := "65c5ad4e6496f7927eeae8e18b21aaf4563566a7d43e4882de45a9f0855b4d2d", func := "stampways/stamplaw8.RoomArrives", spec := "roomArrives", unfollowed := true, recurses := true, plainKeys := false, apart := false, narrowed := true }
def RoomArrivesUptoSaid : Prop := roomArrivesUptoRow.holds Try.pinned (OpenSpec.upto roomArrivesSpec)

/-- 'stamplaw8.RoomNever', WHERE WHAT IT READS IS OF BULK AT MOST 1048576: true; the input reads as it did. -/
def roomNeverUptoRow : OpenClaim := { program := "ytolclgbpjiokfaa", sum := "65c5ad4e6496f7927eeae8e18b21aaf4563566a7d43e4882de45a9f0855b4d2d", func := "stampways/stamplaw8.RoomNever", spec := "roomNever", unfollowed := true, recurses := true, plainKeys := false, apart := false, narrowed := true }
def RoomNeverUptoSaid : Prop := roomNeverUptoRow.holds Try.pinned (OpenSpec.upto roomNeverSpec)

/-- 'stamplaw8.RoomStamps', WHERE WHAT IT READS IS OF BULK AT MOST 1048576: true; the input reads as it did. -/
def roomStampsUptoRow : OpenClaim := { program := "ytolclgbpjiokfaa", sum := "65c5ad4e6496f7927eeae8e18b21aaf4563566a7d43e4882de45a9f0855b4d2d", func := "stampways/stamplaw8.RoomStamps", spec := "roomStamps", unfollowed := true, recurses := true, plainKeys := false, apart := false, narrowed := true }
def RoomStampsUptoSaid : Prop := roomStampsUptoRow.holds Try.pinned (OpenSpec.upto roomStampsSpec)

/-- 'stamplaw8.RoomPast', WHERE WHAT IT READS IS OF BULK AT MOST 1048576: true; the input reads as it did. -/
def roomPastUptoRow : OpenClaim := { program := "ytolclgbpjiokfaa", sum := "65c5ad4e6496f7927eeae8e18b21aaf4563566a7d43e4882de45a9f0855b4d2d", func := "stampways/stamplaw8.RoomPast", spec := "roomPast", unfollowed := true, recurses := true, plainKeys := false, apart := false, narrowed := true }
def RoomPastUptoSaid : Prop := roomPastUptoRow.holds Try.pinned (OpenSpec.upto roomPastSpec)

/-- 'stamptop.TopTwo', WHERE WHAT IT READS IS OF BULK AT MOST 1048576: true; the input reads as it did. -/
def topTwoUptoRow : OpenClaim := { program := "ytolclgbpjiokfaa", sum := "65c5ad4e6496f7927eeae8e18b21aaf4563566a7d43e4882de45a9f0855b4d2d", func := "stampways/stamptop.TopTwo", spec := "topTwo", unfollowed := true, recurses := true, plainKeys := false, apart := false, narrowed := true }
def TopTwoUptoSaid : Prop := topTwoUptoRow.holds Try.pinned (OpenSpec.upto topTwoSpec)

/-- 'stamptop.TopFull', WHERE WHAT IT READS IS OF BULK AT MOST 1048576: true; the input reads as it did. -/
def topFullUptoRow : OpenClaim := { program := "ytolclgbpjiokfaa", sum := "65c5ad4e6496f7927eeae8e18b21aaf4563566a7d43e4882de45a9f0855b4d2d", func := "stampways/stamptop.TopFull", spec := "topFull", unfollowed := true, recurses := true, plainKeys := false, apart := false, narrowed := true }
def TopFullUptoSaid : Prop := topFullUptoRow.holds Try.pinned (OpenSpec.upto topFullSpec)

/-- 'stamptop.TopBusy', WHERE WHAT IT READS IS OF BULK AT MOST 1048576: true; the input reads as it did. -/
def topBusyUptoRow : OpenClaim := { program := "ytolclgbpjiokfaa", sum := "65c5ad4e6496f7927eeae8e18b21aaf4563566a7d43e4882de45a9f0855b4d2d", func := "stampways/stamptop.TopBusy", spec := "topBusy", unfollowed := true, recurses := true, plainKeys := false, apart := false, narrowed := true }
def TopBusyUptoSaid : Prop := topBusyUptoRow.holds Try.pinned (OpenSpec.upto topBusySpec)

/-- 'stamptop.TopLine', WHERE WHAT IT READS IS OF BULK AT MOST 1048576: true; the input reads as it did. -/
def topLineUptoRow : OpenClaim := { program := "ytolclgbpjiokfaa", sum := "65c5ad4e6496f7927eeae8e18b21aaf4563566a7d43e4882de45a9f0855b4d2d", func := "stampways/stamptop.TopLine", spec := "topLine", unfollowed := true, recurses := true, plainKeys := false, apart := false, narrowed := true }
def TopLineUptoSaid : Prop := topLineUptoRow.holds Try.pinned (OpenSpec.upto topLineSpec)

/-- 'stamptop.TopAvoid', WHERE WHAT IT READS IS OF BULK AT MOST 1048576: true; the input reads as it did. -/
def topAvoidUptoRow : OpenClaim := { program := "ytolclgbpjiokfaa", sum := "65c5ad4e6496f7927eeae8e18b21aaf4563566a7d43e4882de45a9f0855b4d2d", func := "stampways/stamptop.TopAvoid", spec := "topAvoid", unfollowed := true, recurses := true, plainKeys := false, apart := false, narrowed := true }
def TopAvoidUptoSaid : Prop := topAvoidUptoRow.holds Try.pinned (OpenSpec.upto topAvoidSpec)

/-- 'stamptop.TopMany', WHERE WHAT IT READS IS OF BULK AT MOST 1048576: true; the input reads as it did. -/
def topManyUptoRow : OpenClaim := { program := "ytolclgbpjiokfaa", sum := "65c5ad4e6496f7927eeae8e18b21aaf4563566a7d43e4882de45a9f0855b4d2d", func := "stampways/stamptop.TopMany", spec := "topMany", unfollowed := true, recurses := true, plainKeys := false, apart := false, narrowed := true }
def TopManyUptoSaid : Prop := topManyUptoRow.holds Try.pinned (OpenSpec.upto topManySpec)

end Rows
end Go.Proofs.Ytolclgbpjiokfaa
