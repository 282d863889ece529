/-
  No cell of these rows narrows 'for every input' (looked for: loops, veiled, ifaces, maps, wideKeys, modest, calm, conditions, laid).
  DERIVED. THE GIVEN ROWS OF THIS SEAT. 9 by the template 'for every input the law returns true; each argument reads behind the call as it read before'; 0 by the template 'total and deterministic' (their statements: YtehimacmjlehhaaTotals.lean).
  GIVEN WITH THE SEED: the statements are not yours to turn. If you find one false, say at which input.
  Laid BY PROGRAM, IN A SANDBOX (cutbox-rows.mjs): the forced cells as the released guide's own fill.sh prints them over the translation 445d5f3425708433… (all of the seat's roots in one cut). By AI agents, Wed Nov 11 2026. No macro, syntax, notation, axiom, sorry.
-/
import Derived.Test.YtehimacmjlehhaaChecked
import GoSem.Claim
import GoSem.ClaimJoined
import GoSem.ClaimMapViews
import Derived.JoinedTies
import Derived.KernelRfl
namespace Go.Proofs.Ytehimacmjlehhaa
/- THE CELL 'sum', in the pinned program and in every row, IS THE sha256 OF THE DUMP (.gsa) THAT YtehimacmjlehhaaProg.lean LOADS. Nothing in Lean hashes anything: it is a label: what it is worth is what the hold of that sum in a sandbox is worth. -/
noncomputable def Try.pinned : Pinned := { name := "ytehimacmjlehhaa", sum := "445d5f34257084332b56c8230248f322372db359e4de56b4d156fd086a921bd8", checked := Try.checked }
namespace Rows
def none {H : Type} : Left H := { results := [], args := [] }

/-- 'marchlandlaw08.MemActs': WHATEVER THE INPUT: true; the input reads as it did. -/
def memActsSpec : ChangeSpec := { name := "memActs", fn := fun _ => fun
  | [d] => { results := [.lit (.bool true)], args := [d] }
  | _ => none }
def memActsRow : OpenClaim := { program := "ytehimacmjlehhaa", sum := "445d5f34257084332b56c8230248f322372db359e4de56b4d156fd086a921bd8", func := "marchland/marchlandlaw08.MemActs", spec := "memActs", plainKeys := false, apart := false }
def MemActsSaid : Prop := memActsRow.holds Try.pinned (OpenSpec.ofChange memActsSpec)

/-- ITS FALSE NEIGHBOUR: 'it returns false'. Refute it at one input. -/
def memActsWrong : ChangeSpec := { name := "memActs", fn := fun _ => fun
  | [d] => { results := [.lit (.bool false)], args := [d] }
  | _ => none }
def MemActsWrongFalsely : Prop := memActsRow.holds Try.pinned (OpenSpec.ofChange memActsWrong)

/-- 'marchlandlaw08.MemNews': WHATEVER THE INPUT: true; the input reads as it did. -/
def memNewsSpec : ChangeSpec := { name := "memNews", fn := fun _ => fun
  | [d1, d2, d3] => { results := [.lit (.bool true)], args := [d1, d2, d3] }
  | _ => none }
def memNewsRow : OpenClaim := { program := "ytehimacmjlehhaa", sum := "445d5f34257084332b56c8230248f322372db359e4de56b4d156fd086a921bd8", func := "marchland/marchlandlaw08.MemNews", spec := "memNews", plainKeys := false, apart := false }
def MemNewsSaid : Prop := memNewsRow.holds Try.pinned (OpenSpec.ofChange memNewsSpec)

/-- ITS FALSE NEIGHBOUR: 'it returns false'. Refute it at one input. -/
def memNewsWrong : ChangeSpec := { name := "memNews", fn := fun _ => fun
  | [d1, d2, d3] => { results := [.lit (.bool false)], args := [d1, d2, d3] }
  | _ => none }
def MemNewsWrongFalsely : Prop := memNewsRow.holds Try.pinned (OpenSpec.ofChange memNewsWrong)

/-- 'marchlandlaw08.MemKeeps': WHATEVER THE INPUT: true; the input reads as it did. -/
def memKeepsSpec : ChangeSpec := { name := "memKeeps", fn := fun _ => fun
  | [d1, d2, d3] => { results := [.lit (.bool true)], args := [d1, d2, d3] }
  | _ => none }
def memKeepsRow : OpenClaim := { program := "ytehimacmjlehhaa", sum := "445d5f34257084332b56c8230248f322372db359e4de56b4d156fd086a921bd8", func := "marchland/marchlandlaw08.MemKeeps", spec := "memKeeps", plainKeys := false, apart := false }
def MemKeepsSaid : Prop := memKeepsRow.holds Try.pinned (OpenSpec.ofChange memKeepsSpec)

/-- ITS FALSE NEIGHBOUR: 'it returns false'. Refute it at one input. -/
def memKeepsWrong : ChangeSpec := { name := "memKeeps", fn := fun _ => fun
  | [d1, d2, d3] => { results := [.lit (.bool false)], args := [d1, d2, d3] }
  | _ => none }
def MemKeepsWrongFalsely : Prop := memKeepsRow.holds Try.pinned (OpenSpec.ofChange memKeepsWrong)

/-- 'marchlandlaw09.ClockBefores': WHATEVER THE INPUT: true; the input reads as it did. -/
def clockBeforesSpec : ChangeSpec := { name := "clockBefores", fn := fun _ => fun
  | [d1, d2, d3] => { results := [.lit (.bool true)], args := [d1, d2, d3] }
  | _ => none }
def clockBeforesRow : OpenClaim := { program := "ytehimacmjlehhaa", sum := "445d5f34257084332b56c8230248f322372db359e4de56b4d156fd086a921bd8", func := "marchland/marchlandlaw09.ClockBefores", spec := "clockBefores", unfollowed := true, recurses := true, plainKeys := false, apart := false }
def ClockBeforesSaid : Prop := clockBeforesRow.holds Try.pinned (OpenSpec.ofChange clockBeforesSpec)

/-- ITS FALSE NEIGHBOUR: 'it returns false'. Refute it at one input. -/
def clockBeforesWrong : ChangeSpec := { name := "clockBefores", fn := fun _ => fun
  | [d1, d2, d3] => { results := [.lit (.bool false)], args := [d1, d2, d3] }
  | _ => none }
def ClockBeforesWrongFalsely : Prop := clockBeforesRow.holds Try.pinned (OpenSpec.ofChange clockBeforesWrong)

/-- 'marchlandlaw09.ClockRaces': WHATEVER THE INPUT: true; the input reads as it did. -/
def clockRacesSpec : ChangeSpec := { name := "clockRaces", fn := fun _ => fun
  | [d] => { results := [.lit (.bool true)], args := [d] }
  | _ => none }
def clockRacesRow : OpenClaim := { program := "ytehimacmjlehhaa", sum := "445d5f34257084332b56c8230248f322372db359e4de56b4d156fd086a921bd8", func := "marchland/marchlandlaw09.ClockRaces", spec := "clockRaces", unfollowed := true, recurses := true, plainKeys := false, apart := false }
def ClockRacesSaid : Prop := clockRacesRow.holds Try.pinned (OpenSpec.ofChange clockRacesSpec)

/-- ITS FALSE NEIGHBOUR: 'it returns false'. Refute it at one input. -/
def clockRacesWrong : ChangeSpec := { name := "clockRaces", fn := fun _ => fun
  | [d] => { results := [.lit (.bool false)], args := [d] }
  | _ => none }
def ClockRacesWrongFalsely : Prop := clockRacesRow.holds Try.pinned (OpenSpec.ofChange clockRacesWrong)

/-- 'marchlandlaw09.ClockLatches': WHATEVER THE INPUT: true; the input reads as it did. -/
def clockLatchesSpec : ChangeSpec := { name := "clockLatches", fn := fun _ => fun
  | [d] => { results := [.lit (.bool true)], args := [d] }
  | _ => none }
def clockLatchesRow : OpenClaim := { program := "ytehimacmjlehhaa", sum := "445d5f34257084332b56c8230248f322372db359e4de56b4d156fd086a921bd8", func := "marchland/marchlandlaw09.ClockLatches", spec := "clockLatches", unfollowed := true, recurses := true, plainKeys := false, apart := false }
def ClockLatchesSaid : Prop := clockLatchesRow.holds Try.pinned (OpenSpec.ofChange clockLatchesSpec)

/-- ITS FALSE NEIGHBOUR: 'it returns false'. Refute it at one input. -/
def clockLatchesWrong : ChangeSpec := { name := "clockLatches", fn := fun _ => fun
  | [d] => { results := [.lit (.bool false)], args := [d] }
  | _ => none }
def ClockLatchesWrongFalsely : Prop := clockLatchesRow.holds Try.pinned (OpenSpec.ofChange clockLatchesWrong)

/-- 'marchlandlaw09.ClockHands': WHATEVER THE INPUT: true; the input reads as it did. -/
def clockHandsSpec : ChangeSpec := { name := "clockHands", fn := fun _ => fun
  | [d1, d2] => { results := [.lit (.bool true)], args := [d1, d2] }
  | _ => none }
def clockHandsRow : OpenClaim := { program := "ytehimacmjlehhaa", sum := "445d5f34257084332b56c8230248f322372db359e4de56b4d156fd086a921bd8", func := "marchland/marchlandlaw09.ClockHands", spec := "clockHands", unfollowed := true, recurses := true, plainKeys := false, apart := false }
def ClockHandsSaid : Prop := clockHandsRow.holds Try.pinned (OpenSpec.ofChange clockHandsSpec)

/-- ITS FALSE NEIGHBOUR: 'it returns false'. Refute it at one input. -/
def clockHandsWrong : ChangeSpec := { name := "clockHands", fn := fun _ => fun
  | [d1, d2] => { results := [.lit (.bool false)], args := [d1, d2] }
  | _ => none }
def ClockHandsWrongFalsely : Prop := clockHandsRow.holds Try.pinned (OpenSpec.ofChange clockHandsWrong)

/-- 'marchlandlaw10.PickWhos': WHATEVER THE INPUT: true; the input reads as it did. -/
def pickWhosSpec : ChangeSpec := { name := "pickWhos", fn := fun _ => fun
  | [d1, d2, d3] => { results := [.lit (.bool true)], args := [d1, d2, d3] }
  | _ => none }
def pickWhosRow : OpenClaim := { program := "ytehimacmjlehhaa", sum := "445d5f34257084332b56c8230248f322372db359e4de56b4d156fd086a921bd8", func := "marchland/marchlandlaw10.PickWhos", spec := "pickWhos", unfollowed := true, recurses := true, plainKeys := false, apart := false }
def PickWhosSaid : Prop := pickWhosRow.holds Try.pinned (OpenSpec.ofChange pickWhosSpec)

/-- ITS FALSE NEIGHBOUR: 'it returns false'. Refute it at one input. -/
def pickWhosWrong : ChangeSpec := { name := "pickWhos", fn := fun _ => fun
  | [d1, d2, d3] => { results := [.lit (.bool false)], args := [d1, d2, d3] }
  | _ => none }
def PickWhosWrongFalsely : Prop := pickWhosRow.holds Try.pinned (OpenSpec.ofChange pickWhosWrong)

/-- 'marchlandlaw10.PickFairs': WHATEVER THE INPUT: true; the input reads as it did. -/
def pickFairsSpec : ChangeSpec := { name := "pickFairs", fn := fun _ => fun
  | [d1, d2, d3] => { results := [.lit (.bool true)], args := [d1, d2, d3] }
  | _ => none }
def pickFairsRow : OpenClaim := { program := "ytehimacmjlehhaa", sum := "445d5f34257084332b56c8230248f322372db359e4de56b4d156fd086a921bd8", func := "marchland/marchlandlaw10.PickFairs", spec := "pickFairs", unfollowed := true, recurses := true, plainKeys := false, apart := false }
def PickFairsSaid : Prop := pickFairsRow.holds Try.pinned (OpenSpec.ofChange pickFairsSpec)

/-- ITS FALSE NEIGHBOUR: 'it returns false'. Refute it at one input. -/
def pickFairsWrong : ChangeSpec := { name := "pickFairs", fn := fun _ => fun
  | [d1, d2, d3] => { results := [.lit (.bool false)], args := [d1, d2, d3] }
  | _ => none }
def PickFairsWrongFalsely : Prop := pickFairsRow.holds Try.pinned (OpenSpec.ofChange pickFairsWrong)

/- THE SECOND FORM. 'bulk': how many values and letters a reading holds, each counted each time it is reached (what is shared counts as often as it is met; a slice's spare places count too). A statement '..UptoSaid' is the law's where the arguments, and the package variables that the reading takes, are together of bulk at most 1048576: NARROWER than '..Said'. Prove '..Said' where nothing that the law and all that it calls make is longer than what came in: it says more and counts as full. Else prove '..UptoSaid'. A law counts once. -/
mutual
def uptoBulk {H : Type} : DataW H → Nat
  | .lit (.string bytes) => bytes.length + 1
  | .lit _ => 1
  | .nil => 1
  | .ptr d => uptoBulk d + 1
  | .slice elems spare => uptoBulkAll elems + uptoBulkAll spare + 1
  | .agg parts => uptoBulkAll parts + 1
  | .iface _ d => uptoBulk d + 1
  | .map entries => uptoBulkEntries entries + 1
  | .held _ => 1
def uptoBulkAll {H : Type} : List (DataW H) → Nat
  | [] => 0
  | d :: r => uptoBulk d + uptoBulkAll r
def uptoBulkEntries {H : Type} : List (Lit × DataW H) → Nat
  | [] => 0
  | x :: r => uptoBulkEntry x + uptoBulkEntries r
def uptoBulkEntry {H : Type} : Lit × DataW H → Nat
  | (.string bytes, d) => bytes.length + uptoBulk d + 1
  | (_, d) => uptoBulk d + 1
 end
def uptoSmall : (H : Type) → List (DataW H) → Bool := fun _ ds => decide (uptoBulkAll ds ≤ 1048576)
def OpenSpec.upto (s : _root_.Go.ChangeSpec) : _root_.Go.OpenSpec := { _root_.Go.OpenSpec.ofChange s with cond := some uptoSmall }

/-- 'marchlandlaw08.MemActs', WHERE WHAT IT READS IS OF BULK AT MOST 1048576: true; the input reads as it did. -/
def memActsUptoRow : OpenClaim := { program := "ytehimacmjlehhaa", sum := "445d5f34257084332b56c8230248f322372db359e4de56b4d156fd086a921bd8", func := "marchland/marchlandlaw08.MemActs", spec := "memActs", plainKeys := false, apart := false, narrowed := true }
def MemActsUptoSaid : Prop := memActsUptoRow.holds Try.pinned (OpenSpec.upto memActsSpec)

/-- 'marchlandlaw08.MemNews', WHERE WHAT IT READS IS OF BULK AT MOST 1048576: true; the input reads as it did. -/
def memNewsUptoRow : OpenClaim := { program := "ytehimacmjlehhaa", sum := "445d5f34257084332b56c8230248f322372db359e4de56b4d156fd086a921bd8", func := "marchland/marchlandlaw08.MemNews", spec := "memNews", plainKeys := false, apart := false, narrowed := true }
def MemNewsUptoSaid : Prop := memNewsUptoRow.holds Try.pinned (OpenSpec.upto memNewsSpec)

/-- 'marchlandlaw08.MemKeeps', WHERE WHAT IT READS IS OF BULK AT MOST 1048576: true; the input reads as it did. -/
def memKeepsUptoRow : OpenClaim := { program := "ytehimacmjlehhaa", sum := "445d5f34257084332b56c8230248f322372db359e4de56b4d156fd086a921bd8", func := "marchland/marchlandlaw08.MemKeeps", spec := "memKeeps", plainKeys := false, apart := false, narrowed := true }
def MemKeepsUptoSaid : Prop := memKeepsUptoRow.holds Try.pinned (OpenSpec.upto memKeepsSpec)

/-- 'marchlandlaw09.ClockBefores', WHERE WHAT IT READS IS OF BULK AT MOST 1048576: true; the input reads as it did. -/
def clockBeforesUptoRow : OpenClaim := { program := "ytehimacmjlehhaa", sum := "445d5f34257084332b56c8230248f322372db359e4de56b4d156fd086a921bd8", func := "marchland/marchlandlaw09.ClockBefores", spec := "clockBefores", unfollowed := true, recurses := true, plainKeys := false, apart := false, narrowed := true }
def ClockBeforesUptoSaid : Prop := clockBeforesUptoRow.holds Try.pinned (OpenSpec.upto clockBeforesSpec)

/-- 'marchlandlaw09.ClockRaces', WHERE WHAT IT READS IS OF BULK AT MOST 1048576: true; the input reads as it did. -/
def clockRacesUptoRow : OpenClaim := { program := "ytehimacmjlehhaa", sum := "445d5f34257084332b56c8230248f322372db359e4de56b4d156fd086a921bd8", func := "marchland/marchlandlaw09.ClockRaces", spec := "clockRaces", unfollowed := true, recurses := true, plainKeys := false, apart := false, narrowed := true }
def ClockRacesUptoSaid : Prop := clockRacesUptoRow.holds Try.pinned (OpenSpec.upto clockRacesSpec)

/-- 'marchlandlaw09.ClockLatches', WHERE WHAT IT READS IS OF BULK AT MOST 1048576: true; the input reads as it did. -/
def clockLatchesUptoRow : OpenClaim := { program := "ytehimacmjlehhaa", sum := "445d5f34257084332b56c8230248f322372db359e4de56b4d156fd086a921bd8", func := "marchland/marchlandlaw09.ClockLatches", spec := "clockLatches", unfollowed := true, recurses := true, plainKeys := false, apart := false, narrowed := true }
def ClockLatchesUptoSaid : Prop := clockLatchesUptoRow.holds Try.pinned (OpenSpec.upto clockLatchesSpec)

/-- 'marchlandlaw09.ClockHands', WHERE WHAT IT READS IS OF BULK AT MOST 1048576: true; the input reads as it did. -/
def clockHandsUptoRow : OpenClaim := { program := "ytehimacmjlehhaa", sum := "445d5f34257084332b56c8230248f322372db359e4de56b4d156fd086a921bd8", func := "marchland/marchlandlaw09.ClockHands", spec := "clockHands", unfollowed := true, recurses := true, plainKeys := false, apart := false, narrowed := true }
def ClockHandsUptoSaid : Prop := clockHandsUptoRow.holds Try.pinned (OpenSpec.upto clockHandsSpec)

/-- 'marchlandlaw10.PickWhos', WHERE WHAT IT READS IS OF BULK AT MOST 1048576: true; the input reads as it did. -/
def pickWhosUptoRow : OpenClaim := { program := "ytehimacmjlehhaa", sum := "445d5f34257084332b56c8230248f322372db359e4de56b4d156fd086a921bd8", func := "marchland/marchlandlaw10.PickWhos", spec := "pickWhos", unfollowed := true, recurses := true, plainKeys := false, apart := false, narrowed := true }
def PickWhosUptoSaid : Prop := pickWhosUptoRow.holds Try.pinned (OpenSpec.upto pickWhosSpec)

/-- 'marchlandlaw10.PickFairs', WHERE WHAT IT READS IS OF BULK AT MOST 1048576: true; the input reads as it did. -/
def pickFairsUptoRow : OpenClaim := { program := "ytehimacmjlehhaa", sum := "445d5f34257084332b56c8230248f322372db359e4de56b4d156fd086a921bd8", func := "marchland/marchlandlaw10.PickFairs", spec := "pickFairs", unfollowed := true, recurses := true, plainKeys := false, apart := false, narrowed := true }
def PickFairsUptoSaid : Prop := pickFairsUptoRow.holds Try.pinned (OpenSpec.upto pickFairsSpec)

end Rows
end Go.Proofs.Ytehimacmjlehhaa
