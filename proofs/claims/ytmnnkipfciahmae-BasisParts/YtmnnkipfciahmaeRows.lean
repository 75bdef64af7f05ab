/-
  No cell of these rows narrows 'for every input' (looked for: loops, veiled, ifaces, maps, wideKeys, modest, calm, conditions, laid).
  DERIVED. THE GIVEN ROWS OF THIS SEAT. 3 by the template 'for every input the law returns true; each argument reads behind the call as it read before'; 0 by the template 'total and deterministic' (their statements: YtmnnkipfciahmaeTotals.lean).
  GIVEN WITH THE SEED: the statements are not yours to turn. If you find one false, say at which input.
  Laid BY PROGRAM, IN A SANDBOX (cutbox-rows.mjs): the forced cells as the released guide's own fill.sh prints them over the translation 95a64ef773e56824… (all of the seat's roots in one cut). By AI agents, Wed Nov 11 2026. No macro, syntax, notation, axiom, sorry.
-/
import Derived.Test.YtmnnkipfciahmaeChecked
import GoSem.Claim
import GoSem.ClaimJoined
import GoSem.ClaimMapViews
import Derived.JoinedTies
import Derived.KernelRfl
namespace Go.Proofs.Ytmnnkipfciahmae
/- THE CELL 'sum', in the pinned program and in every row, IS THE sha256 OF THE DUMP (.gsa) THAT YtmnnkipfciahmaeProg.lean LOADS. Nothing in Lean hashes anything: it is a label: what it is worth is what the hold of that sum in a sandbox is worth. -/
noncomputable def Try.pinned : Pinned := { name := "ytmnnkipfciahmae", sum := "95a64ef773e56824404e92bf91660f6199fa70a4bf5f5879ba50cba06de1e146", checked := Try.checked }
namespace Rows
def none {H : Type} : Left H := { results := [], args := [] }

/-- 'passbooklaw04.BasisParts': WHATEVER THE INPUT: true; the input reads as it did. -/
def basisPartsSpec : ChangeSpec := { name := "basisParts", fn := fun _ => fun
  | [d1, d2, d3] => { results := [.lit (.bool true)], args := [d1, d2, d3] }
  | _ => none }
def basisPartsRow : OpenClaim := { program := "ytmnnkipfciahmae", sum := "95a64ef773e56824404e92bf91660f6199fa70a4bf5f5879ba50cba06de1e146", func := "passbook/passbooklaw04.BasisParts", spec := "basisParts", apart := false }
def BasisPartsSaid : Prop := basisPartsRow.holds Try.pinned (OpenSpec.ofChange basisPartsSpec)

/-- ITS FALSE NEIGHBOUR: 'it returns false'. Refute it at one input. -/
def basisPartsWrong : ChangeSpec := { name := "basisParts", fn := fun _ => fun
  | [d1, d2, d3] => { results := [.lit (.bool false)], args := [d1, d2, d3] }
  | _ => none }
def BasisPartsWrongFalsely : Prop := basisPartsRow.holds Try.pinned (OpenSpec.ofChange basisPartsWrong)

/-- 'passbooklaw04.BasisAdds': WHATEVER THE INPUT: true; the input reads as it did. -/
def basisAddsSpec : ChangeSpec := { name := "basisAdds", fn := fun _ => fun
  | [d1, d2, d3, d4] => { results := [.lit (.bool true)], args := [d1, d2, d3, d4] }
  | _ => none }
def basisAddsRow : OpenClaim := { program := "ytmnnkipfciahmae", sum := "95a64ef773e56824404e92bf91660f6199fa70a4bf5f5879ba50cba06de1e146", func := "passbook/passbooklaw04.BasisAdds", spec := "basisAdds", apart := false }
def BasisAddsSaid : Prop := basisAddsRow.holds Try.pinned (OpenSpec.ofChange basisAddsSpec)

/-- ITS FALSE NEIGHBOUR: 'it returns false'. Refute it at one input. -/
def basisAddsWrong : ChangeSpec := { name := "basisAdds", fn := fun _ => fun
  | [d1, d2, d3, d4] => { results := [.lit (.bool false)], args := [d1, d2, d3, d4] }
  | _ => none }
def BasisAddsWrongFalsely : Prop := basisAddsRow.holds Try.pinned (OpenSpec.ofChange basisAddsWrong)

/-- 'passbooklaw04.BasisYears': WHATEVER THE INPUT: true; the input reads as it did. -/
def basisYearsSpec : ChangeSpec := { name := "basisYears", fn := fun _ => fun
  | [d1, d2] => { results := [.lit (.bool true)], args := [d1, d2] }
  | _ => none }
def basisYearsRow : OpenClaim := { program := "ytmnnkipfciahmae", sum := "95a64ef773e56824404e92bf91660f6199fa70a4bf5f5879ba50cba06de1e146", func := "passbook/passbooklaw04.BasisYears", spec := "basisYears", apart := false }
def BasisYearsSaid : Prop := basisYearsRow.holds Try.pinned (OpenSpec.ofChange basisYearsSpec)

/-- ITS FALSE NEIGHBOUR: 'it returns false'. Refute it at one input. -/
def basisYearsWrong : ChangeSpec := { name := "basisYears", fn := fun _ => fun
  | [d1, d2] => { results := [.lit (.bool false)], args := [d1, d2] }
  | _ => none }
def BasisYearsWrongFalsely : Prop := basisYearsRow.holds Try.pinned (OpenSpec.ofChange basisYearsWrong)

/- THE SECOND FORM. 'bulk': how many values and letters a reading holds, each counted each time it is reached (what is shared counts as often as it is met; a slice's spare places count too). A statement '..UptoSaid' is the law's where the arguments, and the package variables that the reading takes, are together of bulk at most 1048576: NARROWER than '..Said'. Prove '..Said' where nothing that the law and all that it calls make is longer than what came in: it says more and counts as full. Else prove '..UptoSaid'. A law counts once. -/
mutual
def uptoBulk {H : Type} : DataW H → Nat
  | .lit (.string bytes) => bytes.length + 1
  | .lit _ => 1
  | .nil => 1
  | .ptr d => uptoBulk d + 1
  | .slice elems spare => uptoBulkAll elems + uptoBulkAll spare + 1
  | .agg parts => uptoBulkAll parts + 1
  | .iface _ d => uptoBulk d + 1
  | .map entries => uptoBulkEntries entries + 1
  | .held _ => 1
def uptoBulkAll {H : Type} : List (DataW H) → Nat
  | [] => 0
  | d :: r => uptoBulk d + uptoBulkAll r
def uptoBulkEntries {H : Type} : List (Lit × DataW H) → Nat
  | [] => 0
  | x :: r => uptoBulkEntry x + uptoBulkEntries r
def uptoBulkEntry {H : Type} : Lit × DataW H → Nat
  | (.string bytes, d) => bytes.length + uptoBulk d + 1
  | (_, d) => uptoBulk d + 1
 end
def uptoSmall : (H : Type) → List (DataW H) → Bool := fun _ ds => decide (uptoBulkAll ds ≤ 1048576)
def OpenSpec.upto (s : _root_.Go.ChangeSpec) : _root_.Go.OpenSpec := { _root_.Go.OpenSpec.ofChange s with cond := some uptoSmall }

/-- 'passbooklaw04.BasisParts', WHERE WHAT IT READS IS OF BULK AT MOST 1048576: true; the input reads as it did. -/
def basisPartsUptoRow : OpenClaim := { program := "ytmnnkipfciahmae", sum := "95a64ef773e56824404e92bf91660f6199fa70a4bf5f5879ba50cba06de1e146", func := "passbook/passbooklaw04.BasisParts", spec := "basisParts", apart := false, narrowed := true }
def BasisPartsUptoSaid : Prop := basisPartsUptoRow.holds Try.pinned (OpenSpec.upto basisPartsSpec)

/-- 'passbooklaw04.BasisAdds', WHERE WHAT IT READS IS OF BULK AT MOST 1048576: true; the input reads as it did. -/
def basisAddsUptoRow : OpenClaim := { program := "ytmnnkipfciahmae", sum := "95a64ef773e56824404e92bf91660f6199fa70a4bf5f5879ba50cba06de1e146", func := "passbook/passbooklaw04.BasisAdds", spec := "basisAdds", apart := false, narrowed := true }
def BasisAddsUptoSaid : Prop := basisAddsUptoRow.holds Try.pinned (OpenSpec.upto basisAddsSpec)

/-- 'passbooklaw04.BasisYears', WHERE WHAT IT READS IS OF BULK AT MOST 1048576: true; the input reads as it did. -/
def basisYearsUptoRow : OpenClaim := { program := "ytmnnkipfciahmae", sum := "95a64ef773e56824404e92bf91660f6199fa70a4bf5f5879ba50cba06de1e146", func := "passbook/passbooklaw04.BasisYears", spec := "basisYears", apart := false, narrowed := true }
def BasisYearsUptoSaid : Prop := basisYearsUptoRow.holds Try.pinned (OpenSpec.upto basisYearsSpec)

end Rows
end Go.Proofs.Ytmnnkipfciahmae
