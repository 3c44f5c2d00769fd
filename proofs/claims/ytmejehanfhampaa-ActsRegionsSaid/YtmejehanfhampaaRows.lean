/-
  No cell of these rows narrows 'for every input' (looked for: loops, veiled, ifaces, maps, wideKeys, modest, calm, conditions, laid).
  DERIVED. THE GIVEN ROWS OF THIS SEAT. 7 by the template 'for every input the law returns true; each argument reads behind the call as it read before'; 0 by the template 'total and deterministic' (their statements: YtmejehanfhampaaTotals.lean).
  GIVEN WITH THE SEED: the statements are not yours to turn. If you find one false, say at which input.
  Laid BY PROGRAM, IN A SANDBOX (cutbox-rows.mjs): the forced cells as the released guide's own fill.sh prints them over the translation f6ccbc1ed13d3b16… (all of the seat's roots in one cut). By AI agents, Wed Nov 11 2026. No macro, syntax, notation, axiom, sorry.
-/
import Derived.Test.YtmejehanfhampaaChecked
import GoSem.Claim
import GoSem.ClaimJoined
import GoSem.ClaimMapViews
import Derived.JoinedTies
import Derived.KernelRfl
namespace Go.Proofs.Ytmejehanfhampaa
/- THE CELL 'sum', in the pinned program and in every row, IS THE sha256 OF THE DUMP (.gsa) THAT YtmejehanfhampaaProg.lean LOADS. Nothing in Lean hashes anything: it is a label: what it is worth is what the hold of that sum in a sandbox is worth. -/
noncomputable def Try.pinned : Pinned := { name := "ytmejehanfhampaa", sum := "f6ccbc1ed13d3b1690fc35cdd96638b68128530a2b15c02690b7f460067b09ed", checked := Try.checked }
namespace Rows
def none {H : Type} : Left H := { results := [], args := [] }

/-- 'polyptychlaw6.ActsForms': WHATEVER THE INPUT: true; the input reads as it did. -/
def actsFormsSpec : ChangeSpec := { name := "actsForms", fn := fun _ => fun
  | [d] => { results := [.lit (.bool true)], args := [d] }
  | _ => none }
def actsFormsRow : OpenClaim := { program := "ytmejehanfhampaa", sum := "f6ccbc1ed13d3b1690fc35cdd96638b68128530a2b15c02690b7f460067b09ed", func := "polyptych/polyptychlaw6.ActsForms", spec := "actsForms", unfollowed := true, recurses := true, apart := false }
def ActsFormsSaid : Prop := actsFormsRow.holds Try.pinned (OpenSpec.ofChange actsFormsSpec)

/-- ITS FALSE NEIGHBOUR: 'it returns false'. Refute it at one input. -/
def actsFormsWrong : ChangeSpec := { name := "actsForms", fn := fun _ => fun
  | [d] => { results := [.lit (.bool false)], args := [d] }
  | _ => none }
def ActsFormsWrongFalsely : Prop := actsFormsRow.holds Try.pinned (OpenSpec.ofChange actsFormsWrong)

/-- 'polyptychlaw6.ActsMoves': WHATEVER THE INPUT: true; the input reads as it did. -/
def actsMovesSpec : ChangeSpec := { name := "actsMoves", fn := fun _ => fun
  | [d1, d2, d3] => { results := [.lit (.bool true)], args := [d1, d2, d3] }
  | _ => none }
def actsMovesRow : OpenClaim := { program := "ytmejehanfhampaa", sum := "f6ccbc1ed13d3b1690fc35cdd96638b68128530a2b15c02690b7f460067b09ed", func := "polyptych/polyptychlaw6.ActsMoves", spec := "actsMoves", unfollowed := true, recurses := true, apart := false }
def ActsMovesSaid : Prop := actsMovesRow.holds Try.pinned (OpenSpec.ofChange actsMovesSpec)

/-- ITS FALSE NEIGHBOUR: 'it returns false'. Refute it at one input. -/
def actsMovesWrong : ChangeSpec := { name := "actsMoves", fn := fun _ => fun
  | [d1, d2, d3] => { results := [.lit (.bool false)], args := [d1, d2, d3] }
  | _ => none }
def ActsMovesWrongFalsely : Prop := actsMovesRow.holds Try.pinned (OpenSpec.ofChange actsMovesWrong)

/-- 'polyptychlaw6.ActsRegions': WHATEVER THE INPUT: true; the input reads as it did. -/
def actsRegionsSpec : ChangeSpec := { name := "actsRegions", fn := fun _ => fun
  | [d1, d2, d3, d4] => { results := [.lit (.bool true)], args := [d1, d2, d3, d4] }
  | _ => none }
def actsRegionsRow : OpenClaim := { program := "ytmejehanfhampaa", sum := "f6ccbc1ed13d3b1690fc35cdd96638b68128530a2b15c02690b7f460067b09ed", func := "polyptych/polyptychlaw6.ActsRegions", spec := "actsRegions", unfollowed := true, recurses := true, apart := false }
def ActsRegionsSaid : Prop := actsRegionsRow.holds Try.pinned (OpenSpec.ofChange actsRegionsSpec)

/-- ITS FALSE NEIGHBOUR: 'it returns false'. Refute it at one input. -/
def actsRegionsWrong : ChangeSpec := { name := "actsRegions", fn := fun _ => fun
  | [d1, d2, d3, d4] => { results := [.lit (.bool false)], args := [d1, d2, d3, d4] }
  | _ => none }
def ActsRegionsWrongFalsely : Prop := actsRegionsRow.holds Try.pinned (OpenSpec.ofChange actsRegionsWrong)

/-- 'polyptychlaw6.ActsWrap': WHATEVER THE INPUT: true; the input reads as it did. -/
def actsWrapSpec : ChangeSpec := { name := "actsWrap", fn := fun _ => fun
  | [d1, d2, d3, d4] => { results := [.lit (.bool true)], args := [d1, d2, d3, d4] }
  | _ => none }
def actsWrapRow : OpenClaim := { program := "ytmejehanfhampaa", sum := "f6ccbc1ed13d3b1690fc35cdd96638b68128530a2b15c02690b7f460067b09ed", func := "polyptych/polyptychlaw6.ActsWrap", spec := "actsWrap", unfollowed := true, recurses := true, apart := false }
def ActsWrapSaid : Prop := actsWrapRow.holds Try.pinned (OpenSpec.ofChange actsWrapSpec)

/-- ITS FALSE NEIGHBOUR: 'it returns false'. Refute it at one input. -/
def actsWrapWrong : ChangeSpec := { name := "actsWrap", fn := fun _ => fun
  | [d1, d2, d3, d4] => { results := [.lit (.bool false)], args := [d1, d2, d3, d4] }
  | _ => none }
def ActsWrapWrongFalsely : Prop := actsWrapRow.holds Try.pinned (OpenSpec.ofChange actsWrapWrong)

/-- 'polyptychlaw6.ActsErase': WHATEVER THE INPUT: true; the input reads as it did. -/
def actsEraseSpec : ChangeSpec := { name := "actsErase", fn := fun _ => fun
  | [d1, d2] => { results := [.lit (.bool true)], args := [d1, d2] }
  | _ => none }
def actsEraseRow : OpenClaim := { program := "ytmejehanfhampaa", sum := "f6ccbc1ed13d3b1690fc35cdd96638b68128530a2b15c02690b7f460067b09ed", func := "polyptych/polyptychlaw6.ActsErase", spec := "actsErase", unfollowed := true, recurses := true, apart := false }
def ActsEraseSaid : Prop := actsEraseRow.holds Try.pinned (OpenSpec.ofChange actsEraseSpec)

/-- ITS FALSE NEIGHBOUR: 'it returns false'. Refute it at one input. -/
def actsEraseWrong : ChangeSpec := { name := "actsErase", fn := fun _ => fun
  | [d1, d2] => { results := [.lit (.bool false)], args := [d1, d2] }
  | _ => none }
def ActsEraseWrongFalsely : Prop := actsEraseRow.holds Try.pinned (OpenSpec.ofChange actsEraseWrong)

/-- 'polyptychlaw6.ActsTexts': WHATEVER THE INPUT: true; the input reads as it did. -/
def actsTextsSpec : ChangeSpec := { name := "actsTexts", fn := fun _ => fun
  | [d1, d2, d3] => { results := [.lit (.bool true)], args := [d1, d2, d3] }
  | _ => none }
def actsTextsRow : OpenClaim := { program := "ytmejehanfhampaa", sum := "f6ccbc1ed13d3b1690fc35cdd96638b68128530a2b15c02690b7f460067b09ed", func := "polyptych/polyptychlaw6.ActsTexts", spec := "actsTexts", unfollowed := true, recurses := true, apart := false }
def ActsTextsSaid : Prop := actsTextsRow.holds Try.pinned (OpenSpec.ofChange actsTextsSpec)

/-- ITS FALSE NEIGHBOUR: 'it returns false'. Refute it at one input. -/
def actsTextsWrong : ChangeSpec := { name := "actsTexts", fn := fun _ => fun
  | [d1, d2, d3] => { results := [.lit (.bool false)], args := [d1, d2, d3] }
  | _ => none }
def ActsTextsWrongFalsely : Prop := actsTextsRow.holds Try.pinned (OpenSpec.ofChange actsTextsWrong)

/-- 'polyptychlaw6.ActsWhole': WHATEVER THE INPUT: true; the input reads as it did. -/
def actsWholeSpec : ChangeSpec := { name := "actsWhole", fn := fun _ => fun
  | [d1, d2] => { results := [.lit (.bool true)], args := [d1, d2] }
  | _ => none }
def actsWholeRow : OpenClaim := { program := "ytmejehanfhampaa", sum := "f6ccbc1ed13d3b1690fc35cdd96638b68128530a2b15c02690b7f460067b09ed", func := "polyptych/polyptychlaw6.ActsWhole", spec := "actsWhole", unfollowed := true, recurses := true, apart := false }
def ActsWholeSaid : Prop := actsWholeRow.holds Try.pinned (OpenSpec.ofChange actsWholeSpec)

/-- ITS FALSE NEIGHBOUR: 'it returns false'. Refute it at one input. -/
def actsWholeWrong : ChangeSpec := { name := "actsWhole", fn := fun _ => fun
  | [d1, d2] => { results := [.lit (.bool false)], args := [d1, d2] }
  | _ => none }
def ActsWholeWrongFalsely : Prop := actsWholeRow.holds Try.pinned (OpenSpec.ofChange actsWholeWrong)

/- THE SECOND FORM. 'bulk': how many values and letters a reading holds, each counted each time it is reached (what is shared counts as often as it is met; a slice's spare places count too). A statement '..UptoSaid' is the law's where the arguments, and the package variables that the reading takes, are together of bulk at most 1048576: NARROWER than '..Said'. Prove '..Said' where nothing that the law and all that it calls make is longer than what came in: it says more and counts as full. Else prove '..UptoSaid'. A law counts once. -/
mutual
def uptoBulk {H : Type} : DataW H → Nat
  | .lit (.string bytes) => bytes.length + 1
  | .lit _ => 1
  | .nil => 1
  | .ptr d => uptoBulk d + 1
  | .slice elems spare => uptoBulkAll elems + uptoBulkAll spare + 1
  | .agg parts => uptoBulkAll parts + 1
  | .iface _ d => uptoBulk d + 1
  | .map entries => uptoBulkEntries entries + 1
  | .held _ => 1
def uptoBulkAll {H : Type} : List (DataW H) → Nat
  | [] => 0
  | d :: r => uptoBulk d + uptoBulkAll r
def uptoBulkEntries {H : Type} : List (Lit × DataW H) → Nat
  | [] => 0
  | x :: r => uptoBulkEntry x + uptoBulkEntries r
def uptoBulkEntry {H : Type} : Lit × DataW H → Nat
  | (.string bytes, d) => bytes.length + uptoBulk d + 1
  | (_, d) => uptoBulk d + 1
 end
def uptoSmall : (H : Type) → List (DataW H) → Bool := fun _ ds => decide (uptoBulkAll ds ≤ 1048576)
def OpenSpec.upto (s : _root_.Go.ChangeSpec) : _root_.Go.OpenSpec := { _root_.Go.OpenSpec.ofChange s with cond := some uptoSmall }

/-- 'polyptychlaw6.ActsForms', WHERE WHAT IT READS IS OF BULK AT MOST 1048576: true; the input reads as it did. -/
def actsFormsUptoRow : OpenClaim := { program := "ytmejehanfhampaa", sum := "f6ccbc1ed13d3b1690fc35cdd96638b68128530a2b15c02690b7f460067b09ed", func := "polyptych/polyptychlaw6.ActsForms", spec := "actsForms", unfollowed := true, recurses := true, apart := false, narrowed := true }
def ActsFormsUptoSaid : Prop := actsFormsUptoRow.holds Try.pinned (OpenSpec.upto actsFormsSpec)

/-- 'polyptychlaw6.ActsMoves', WHERE WHAT IT READS IS OF BULK AT MOST 1048576: true; the input reads as it did. -/
def actsMovesUptoRow : OpenClaim := { program := "ytmejehanfhampaa", sum := "f6ccbc1ed13d3b1690fc35cdd96638b68128530a2b15c02690b7f460067b09ed", func := "polyptych/polyptychlaw6.ActsMoves", spec := "actsMoves", unfollowed := true, recurses := true, apart := false, narrowed := true }
def ActsMovesUptoSaid : Prop := actsMovesUptoRow.holds Try.pinned (OpenSpec.upto actsMovesSpec)

/-- 'polyptychlaw6.ActsRegions', WHERE WHAT IT READS IS OF BULK AT MOST 1048576: true; the input reads as it did. -/
def actsRegionsUptoRow : OpenClaim := { program := "ytmejehanfhampaa", sum := "f6ccbc1ed13d3b1690fc35cdd96638b68128530a2b15c02690b7f460067b09ed", func := "polyptych/polyptychlaw6.ActsRegions", spec := "actsRegions", unfollowed := true, recurses := true, apart := false, narrowed := true }
def ActsRegionsUptoSaid : Prop := actsRegionsUptoRow.holds Try.pinned (OpenSpec.upto actsRegionsSpec)

/-- 'polyptychlaw6.ActsWrap', WHERE WHAT IT READS IS OF BULK AT MOST 1048576: true; the input reads as it did. -/
def actsWrapUptoRow : OpenClaim := { program := "ytmejehanfhampaa", sum := "f6ccbc1ed13d3b1690fc35cdd96638b68128530a2b15c02690b7f460067b09ed", func := "polyptych/polyptychlaw6.ActsWrap", spec := "actsWrap", unfollowed := true, recurses := true, apart := false, narrowed := true }
def ActsWrapUptoSaid : Prop := actsWrapUptoRow.holds Try.pinned (OpenSpec.upto actsWrapSpec)

/-- 'polyptychlaw6.ActsErase', WHERE WHAT IT READS IS OF BULK AT MOST 1048576: true; the input reads as it did. -/
def actsEraseUptoRow : OpenClaim := { program := "ytmejehanfhampaa", sum := "f6ccbc1ed13d3b1690fc35cdd96638b68128530a2b15c02690b7f460067b09ed", func := "polyptych/polyptychlaw6.ActsErase", spec := "actsErase", unfollowed := true, recurses := true, apart := false, narrowed := true }
def ActsEraseUptoSaid : Prop := actsEraseUptoRow.holds Try.pinned (OpenSpec.upto actsEraseSpec)

/-- 'polyptychlaw6.ActsTexts', WHERE WHAT IT READS IS OF BULK AT MOST 1048576: true; the input reads as it did. -/
def actsTextsUptoRow : OpenClaim := { program := "ytmejehanfhampaa", sum := "f6ccbc1ed13d3b1690fc35cdd96638b68128530a2b15c02690b7f460067b09ed", func := "polyptych/polyptychlaw6.ActsTexts", spec := "actsTexts", unfollowed := true, recurses := true, apart := false, narrowed := true }
def ActsTextsUptoSaid : Prop := actsTextsUptoRow.holds Try.pinned (OpenSpec.upto actsTextsSpec)

/-- 'polyptychlaw6.ActsWhole', WHERE WHAT IT READS IS OF BULK AT MOST 1048576: true; the input reads as it did. -/
def actsWholeUptoRow : OpenClaim := { program := "ytmejehanfhampaa", sum := "f6ccbc1ed13d3b1690fc35cdd96638b68128530a2b15c02690b7f460067b09ed", func := "polyptych/polyptychlaw6.ActsWhole", spec := "actsWhole", unfollowed := true, recurses := true, apart := false, narrowed := true }
def ActsWholeUptoSaid : Prop := actsWholeUptoRow.holds Try.pinned (OpenSpec.upto actsWholeSpec)

end Rows
end Go.Proofs.Ytmejehanfhampaa
