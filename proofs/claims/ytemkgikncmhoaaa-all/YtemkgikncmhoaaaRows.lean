/-
  No cell of these rows narrows 'for every input' (looked for: loops, veiled, ifaces, maps, wideKeys, modest, calm, conditions, laid).
  DERIVED. THE GIVEN ROWS OF THIS SEAT. 9 by the template 'for every input the law returns true; each argument reads behind the call as it read before'; 0 by the template 'total and deterministic' (their statements: YtemkgikncmhoaaaTotals.lean).
  GIVEN WITH THE SEED: the statements are not yours to turn. If you find one false, say at which input.
  Laid BY PROGRAM, IN A SANDBOX (cutbox-rows.mjs): the forced cells as the released guide's own fill.sh prints them over the translation 9fa4fb27c6ac5ee4… (all of the seat's roots in one cut). By AI agents, Wed Nov 11 2026. No macro, syntax, notation, axiom, sorry.
-/
import Derived.Test.YtemkgikncmhoaaaChecked
import GoSem.Claim
import GoSem.ClaimJoined
import GoSem.ClaimMapViews
import Derived.JoinedTies
import Derived.KernelRfl
namespace Go.Proofs.Ytemkgikncmhoaaa
/- THE CELL 'sum', in the pinned program and in every row, IS THE sha256 OF THE DUMP (.gsa) THAT YtemkgikncmhoaaaProg.lean LOADS. Nothing in Lean hashes anything: it is a label: what it is worth is what the hold of that sum in a sandbox is worth. -/
noncomputable def Try.pinned : Pinned := { name := "ytemkgikncmhoaaa", sum := "9fa4fb27c6ac5ee406de072641b753147343e532e71716bf9c9469a9aead2634", checked := Try.checked }
namespace Rows
def none {H : Type} : Left H := { results := [], args := [] }

/-- 'weavelaw.Rooms': WHATEVER THE INPUT: true; the input reads as it did. -/
def roomsSpec : ChangeSpec := { name := "rooms", fn := fun _ => fun
  | [d1, d2, d3] => { results := [.lit (.bool true)], args := [d1, d2, d3] }
  | _ => none }
def roomsRow : OpenClaim := { program := "ytemkgikncmhoaaa", sum := "9fa4fb27c6ac5ee406de072641b753147343e532e71716bf9c9469a9aead2634", func := "weave/weavelaw.Rooms", spec := "rooms", inPlace := ["slices.overlaps[byte]"], unfollowed := true, recurses := true, plainKeys := false, apart := false }
def RoomsSaid : Prop := roomsRow.holds Try.pinned (OpenSpec.ofChange roomsSpec)

/-- ITS FALSE NEIGHBOUR: 'it returns false'. Refute it at one input. -/
def roomsWrong : ChangeSpec := { name := "rooms", fn := fun _ => fun
  | [d1, d2, d3] => { results := [.lit (.bool false)], args := [d1, d2, d3] }
  | _ => none }
def RoomsWrongFalsely : Prop := roomsRow.holds Try.pinned (OpenSpec.ofChange roomsWrong)

/-- 'weavekeep.Alone': WHATEVER THE INPUT: true; the input reads as it did. -/
def aloneSpec : ChangeSpec := { name := "alone", fn := fun _ => fun
  | [d1, d2] => { results := [.lit (.bool true)], args := [d1, d2] }
  | _ => none }
def aloneRow : OpenClaim := { program := "ytemkgikncmhoaaa", sum := "9fa4fb27c6ac5ee406de072641b753147343e532e71716bf9c9469a9aead2634", func := "weave/weavekeep.Alone", spec := "alone", inPlace := ["slices.overlaps[byte]"], unfollowed := true, recurses := true, plainKeys := false, apart := false }
def AloneSaid : Prop := aloneRow.holds Try.pinned (OpenSpec.ofChange aloneSpec)

/-- ITS FALSE NEIGHBOUR: 'it returns false'. Refute it at one input. -/
def aloneWrong : ChangeSpec := { name := "alone", fn := fun _ => fun
  | [d1, d2] => { results := [.lit (.bool false)], args := [d1, d2] }
  | _ => none }
def AloneWrongFalsely : Prop := aloneRow.holds Try.pinned (OpenSpec.ofChange aloneWrong)

/-- 'weavekeep.Converges': WHATEVER THE INPUT: true; the input reads as it did. -/
def convergesSpec : ChangeSpec := { name := "converges", fn := fun _ => fun
  | [d1, d2, d3] => { results := [.lit (.bool true)], args := [d1, d2, d3] }
  | _ => none }
def convergesRow : OpenClaim := { program := "ytemkgikncmhoaaa", sum := "9fa4fb27c6ac5ee406de072641b753147343e532e71716bf9c9469a9aead2634", func := "weave/weavekeep.Converges", spec := "converges", inPlace := ["slices.overlaps[byte]"], unfollowed := true, recurses := true, plainKeys := false, apart := false }
def ConvergesSaid : Prop := convergesRow.holds Try.pinned (OpenSpec.ofChange convergesSpec)

/-- ITS FALSE NEIGHBOUR: 'it returns false'. Refute it at one input. -/
def convergesWrong : ChangeSpec := { name := "converges", fn := fun _ => fun
  | [d1, d2, d3] => { results := [.lit (.bool false)], args := [d1, d2, d3] }
  | _ => none }
def ConvergesWrongFalsely : Prop := convergesRow.holds Try.pinned (OpenSpec.ofChange convergesWrong)

/-- 'weavekeep.Letters': WHATEVER THE INPUT: true; the input reads as it did. -/
def lettersSpec : ChangeSpec := { name := "letters", fn := fun _ => fun
  | [d1, d2, d3] => { results := [.lit (.bool true)], args := [d1, d2, d3] }
  | _ => none }
def lettersRow : OpenClaim := { program := "ytemkgikncmhoaaa", sum := "9fa4fb27c6ac5ee406de072641b753147343e532e71716bf9c9469a9aead2634", func := "weave/weavekeep.Letters", spec := "letters", inPlace := ["slices.overlaps[byte]"], unfollowed := true, recurses := true, plainKeys := false, apart := false }
def LettersSaid : Prop := lettersRow.holds Try.pinned (OpenSpec.ofChange lettersSpec)

/-- ITS FALSE NEIGHBOUR: 'it returns false'. Refute it at one input. -/
def lettersWrong : ChangeSpec := { name := "letters", fn := fun _ => fun
  | [d1, d2, d3] => { results := [.lit (.bool false)], args := [d1, d2, d3] }
  | _ => none }
def LettersWrongFalsely : Prop := lettersRow.holds Try.pinned (OpenSpec.ofChange lettersWrong)

/-- 'weavekeep.Lossless': WHATEVER THE INPUT: true; the input reads as it did. -/
def losslessSpec : ChangeSpec := { name := "lossless", fn := fun _ => fun
  | [d1, d2, d3] => { results := [.lit (.bool true)], args := [d1, d2, d3] }
  | _ => none }
def losslessRow : OpenClaim := { program := "ytemkgikncmhoaaa", sum := "9fa4fb27c6ac5ee406de072641b753147343e532e71716bf9c9469a9aead2634", func := "weave/weavekeep.Lossless", spec := "lossless", inPlace := ["slices.overlaps[byte]"], unfollowed := true, recurses := true, plainKeys := false, apart := false }
def LosslessSaid : Prop := losslessRow.holds Try.pinned (OpenSpec.ofChange losslessSpec)

/-- ITS FALSE NEIGHBOUR: 'it returns false'. Refute it at one input. -/
def losslessWrong : ChangeSpec := { name := "lossless", fn := fun _ => fun
  | [d1, d2, d3] => { results := [.lit (.bool false)], args := [d1, d2, d3] }
  | _ => none }
def LosslessWrongFalsely : Prop := losslessRow.holds Try.pinned (OpenSpec.ofChange losslessWrong)

/-- 'weavekeep.Both': WHATEVER THE INPUT: true; the input reads as it did. -/
def bothSpec : ChangeSpec := { name := "both", fn := fun _ => fun
  | [d1, d2, d3, d4] => { results := [.lit (.bool true)], args := [d1, d2, d3, d4] }
  | _ => none }
def bothRow : OpenClaim := { program := "ytemkgikncmhoaaa", sum := "9fa4fb27c6ac5ee406de072641b753147343e532e71716bf9c9469a9aead2634", func := "weave/weavekeep.Both", spec := "both", inPlace := ["slices.overlaps[byte]"], unfollowed := true, recurses := true, plainKeys := false, apart := false }
def BothSaid : Prop := bothRow.holds Try.pinned (OpenSpec.ofChange bothSpec)

/-- ITS FALSE NEIGHBOUR: 'it returns false'. Refute it at one input. -/
def bothWrong : ChangeSpec := { name := "both", fn := fun _ => fun
  | [d1, d2, d3, d4] => { results := [.lit (.bool false)], args := [d1, d2, d3, d4] }
  | _ => none }
def BothWrongFalsely : Prop := bothRow.holds Try.pinned (OpenSpec.ofChange bothWrong)

/-- 'weavekeep.Window': WHATEVER THE INPUT: true; the input reads as it did. -/
def windowSpec : ChangeSpec := { name := "window", fn := fun _ => fun
  | [d1, d2, d3, d4] => { results := [.lit (.bool true)], args := [d1, d2, d3, d4] }
  | _ => none }
def windowRow : OpenClaim := { program := "ytemkgikncmhoaaa", sum := "9fa4fb27c6ac5ee406de072641b753147343e532e71716bf9c9469a9aead2634", func := "weave/weavekeep.Window", spec := "window", inPlace := ["slices.overlaps[byte]"], unfollowed := true, recurses := true, plainKeys := false, apart := false }
def WindowSaid : Prop := windowRow.holds Try.pinned (OpenSpec.ofChange windowSpec)

/-- ITS FALSE NEIGHBOUR: 'it returns false'. Refute it at one input. -/
def windowWrong : ChangeSpec := { name := "window", fn := fun _ => fun
  | [d1, d2, d3, d4] => { results := [.lit (.bool false)], args := [d1, d2, d3, d4] }
  | _ => none }
def WindowWrongFalsely : Prop := windowRow.holds Try.pinned (OpenSpec.ofChange windowWrong)

/-- 'weavekeep.Junk': WHATEVER THE INPUT: true; the input reads as it did. -/
def junkSpec : ChangeSpec := { name := "junk", fn := fun _ => fun
  | [d1, d2, d3] => { results := [.lit (.bool true)], args := [d1, d2, d3] }
  | _ => none }
def junkRow : OpenClaim := { program := "ytemkgikncmhoaaa", sum := "9fa4fb27c6ac5ee406de072641b753147343e532e71716bf9c9469a9aead2634", func := "weave/weavekeep.Junk", spec := "junk", inPlace := ["slices.overlaps[byte]"], unfollowed := true, recurses := true, plainKeys := false, apart := false }
def JunkSaid : Prop := junkRow.holds Try.pinned (OpenSpec.ofChange junkSpec)

/-- ITS FALSE NEIGHBOUR: 'it returns false'. Refute it at one input. -/
def junkWrong : ChangeSpec := { name := "junk", fn := fun _ => fun
  | [d1, d2, d3] => { results := [.lit (.bool false)], args := [d1, d2, d3] }
  | _ => none }
def JunkWrongFalsely : Prop := junkRow.holds Try.pinned (OpenSpec.ofChange junkWrong)

/-- 'weavelaw.All': WHATEVER THE INPUT: true; the input reads as it did. -/
def allSpec : ChangeSpec := { name := "all", fn := fun _ => fun
  | [d1, d2, d3] => { results := [.lit (.bool true)], args := [d1, d2, d3] }
  | _ => none }
def allRow : OpenClaim := { program := "ytemkgikncmhoaaa", sum := "9fa4fb27c6ac5ee406de072641b753147343e532e71716bf9c9469a9aead2634", func := "weave/weavelaw.All", spec := "all", inPlace := ["slices.overlaps[byte]"], unfollowed := true, recurses := true, plainKeys := false, apart := false }
def AllSaid : Prop := allRow.holds Try.pinned (OpenSpec.ofChange allSpec)

/-- ITS FALSE NEIGHBOUR: 'it returns false'. Refute it at one input. -/
def allWrong : ChangeSpec := { name := "all", fn := fun _ => fun
  | [d1, d2, d3] => { results := [.lit (.bool false)], args := [d1, d2, d3] }
  | _ => none }
def AllWrongFalsely : Prop := allRow.holds Try.pinned (OpenSpec.ofChange allWrong)

/- THE SECOND FORM. 'bulk': how many values and letters a reading holds, each counted each time it is reached (what is shared counts as often as it is met; a slice's spare places count too). A statement '..UptoSaid' is the law's where the arguments, and the package variables that the reading takes, are together of bulk at most 1048576: NARROWER than '..Said'. Prove '..Said' where nothing that the law and all that it calls make is longer than what came in: it says more and counts as full. Else prove '..UptoSaid'. A law counts once. -/
mutual
def uptoBulk {H : Type} : DataW H → Nat
  | .lit (.string bytes) => bytes.length + 1
  | .lit _ => 1
  | .nil => 1
  | .ptr d => uptoBulk d + 1
  | .slice elems spare => uptoBulkAll elems + uptoBulkAll spare + 1
  | .agg parts => uptoBulkAll parts + 1
  | .iface _ d => uptoBulk d + 1
  | .map entries => uptoBulkEntries entries + 1
  | .held _ => 1
def uptoBulkAll {H : Type} : List (DataW H) → Nat
  | [] => 0
  | d :: r => uptoBulk d + uptoBulkAll r
def uptoBulkEntries {H : Type} : List (Lit × DataW H) → Nat
  | [] => 0
  | x :: r => uptoBulkEntry x + uptoBulkEntries r
def uptoBulkEntry {H : Type} : Lit × DataW H → Nat
  | (.string bytes, d) => bytes.length + uptoBulk d + 1
  | (_, d) => uptoBulk d + 1
 end
def uptoSmall : (H : Type) → List (DataW H) → Bool := fun _ ds => decide (uptoBulkAll ds ≤ 1048576)
def OpenSpec.upto (s : _root_.Go.ChangeSpec) : _root_.Go.OpenSpec := { _root_.Go.OpenSpec.ofChange s with cond := some uptoSmall }

/-- 'weavelaw.Rooms', WHERE WHAT IT READS IS OF BULK AT MOST 1048576: true; the input reads as it did. -/
def roomsUptoRow : OpenClaim := { program := "ytemkgikncmhoaaa", sum := "9fa4fb27c6ac5ee406de072641b753147343e532e71716bf9c9469a9aead2634", func := "weave/weavelaw.Rooms", spec := "rooms", inPlace := ["slices.overlaps[byte]"], unfollowed := true, recurses := true, plainKeys := false, apart := false, narrowed := true }
def RoomsUptoSaid : Prop := roomsUptoRow.holds Try.pinned (OpenSpec.upto roomsSpec)

/-- 'weavekeep.Alone', WHERE WHAT IT READS IS OF BULK AT MOST 1048576: true; the input reads as it did. -/
def aloneUptoRow : OpenClaim := { program := "ytemkgikncmhoaaa", sum := "9fa4fb27c6ac5ee406de072641b753147343e532e71716bf9c9469a9aead2634", func := "weave/weavekeep.Alone", spec := "alone", inPlace := ["slices.overlaps[byte]"], unfollowed := true, recurses := true, plainKeys := false, apart := false, narrowed := true }
def AloneUptoSaid : Prop := aloneUptoRow.holds Try.pinned (OpenSpec.upto aloneSpec)

/-- 'weavekeep.Converges', WHERE WHAT IT READS IS OF BULK AT MOST 1048576: true; the input reads as it did. -/
def convergesUptoRow : OpenClaim := { program := "ytemkgikncmhoaaa", sum := "9fa4fb27c6ac5ee406de072641b753147343e532e71716bf9c9469a9aead2634", func := "weave/weavekeep.Converges", spec := "converges", inPlace := ["slices.overlaps[byte]"], unfollowed := true, recurses := true, plainKeys := false, apart := false, narrowed := true }
def ConvergesUptoSaid : Prop := convergesUptoRow.holds Try.pinned (OpenSpec.upto convergesSpec)

/-- 'weavekeep.Letters', WHERE WHAT IT READS IS OF BULK AT MOST 1048576: true; the input reads as it did. -/
def lettersUptoRow : OpenClaim := { program := "ytemkgikncmhoaaa", sum := "9fa4fb27c6ac5ee406de072641b753147343e532e71716bf9c9469a9aead2634", func := "weave/weavekeep.Letters", spec := "letters", inPlace := ["slices.overlaps[byte]"], unfollowed := true, recurses := true, plainKeys := false, apart := false, narrowed := true }
def LettersUptoSaid : Prop := lettersUptoRow.holds Try.pinned (OpenSpec.upto lettersSpec)

/-- 'weavekeep.Lossless', WHERE WHAT IT READS IS OF BULK AT MOST 1048576: true; the input reads as it did. -/
def losslessUptoRow : OpenClaim := { program := "ytemkgikncmhoaaa", sum := "9fa4fb27c6ac5ee406de072641b753147343e532e71716bf9c9469a9aead2634", func := "weave/weavekeep.Lossless", spec := "lossless", inPlace := ["slices.overlaps[byte]"], unfollowed := true, recurses := true, plainKeys := false, apart := false, narrowed := true }
def LosslessUptoSaid : Prop := losslessUptoRow.holds Try.pinned (OpenSpec.upto losslessSpec)

/-- 'weavekeep.Both', WHERE WHAT IT READS IS OF BULK AT MOST 1048576: true; the input reads as it did. -/
def bothUptoRow : OpenClaim := { program := "ytemkgikncmhoaaa", sum := "9fa4fb27c6ac5ee406de072641b753147343e532e71716bf9c9469a9aead2634", func := "weave/weavekeep.Both", spec := "both", inPlace := ["slices.overlaps[byte]"], unfollowed := true, recurses := true, plainKeys := false, apart := false, narrowed := true }
def BothUptoSaid : Prop := bothUptoRow.holds Try.pinned (OpenSpec.upto bothSpec)

/-- 'weavekeep.Window', WHERE WHAT IT READS IS OF BULK AT MOST 1048576: true; the input reads as it did. -/
def windowUptoRow : OpenClaim := { program := "ytemkgikncmhoaaa", sum := "9fa4fb27c6ac5ee406de072641b753147343e532e71716bf9c9469a9aead2634", func := "weave/weavekeep.Window", spec := "window", inPlace := ["slices.overlaps[byte]"], unfollowed := true, recurses := true, plainKeys := false, apart := false, narrowed := true }
def WindowUptoSaid : Prop := windowUptoRow.holds Try.pinned (OpenSpec.upto windowSpec)

/-- 'weavekeep.Junk', WHERE WHAT IT READS IS OF BULK AT MOST 1048576: true; the input reads as it did. -/
def junkUptoRow : OpenClaim := { program := "ytemkgikncmhoaaa", sum := "9fa4fb27c6ac5ee406de072641b753147343e532e71716bf9c9469a9aead2634", func := "weave/weavekeep.Junk", spec := "junk", inPlace := ["slices.overlaps[byte]"], unfollowed := true, recurses := true, plainKeys := false, apart := false, narrowed := true }
def JunkUptoSaid : Prop := junkUptoRow.holds Try.pinned (OpenSpec.upto junkSpec)

/-- 'weavelaw.All', WHERE WHAT IT READS IS OF BULK AT MOST 1048576: true; the input reads as it did. -/
def allUptoRow : OpenClaim := { program := "ytemkgikncmhoaaa", sum := "9fa4fb27c6ac5ee406de072641b753147343e532e71716bf9c9469a9aead2634", func := "weave/weavelaw.All", spec := "all", inPlace := ["slices.overlaps[byte]"], unfollowed := true, recurses := true, plainKeys := false, apart := false, narrowed := true }
def AllUptoSaid : Prop := allUptoRow.holds Try.pinned (OpenSpec.upto allSpec)

end Rows
end Go.Proofs.Ytemkgikncmhoaaa
