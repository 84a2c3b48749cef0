/-
  NARROWER THAN 'FOR EVERY INPUT', by the rows' own cells (each row's printed sentence says how): SumOf: laid · UberEncodes: laid · UberCrash: laid · UberLoss: laid · UberBack: laid · UberNewest: laid.
  DERIVED. THE GIVEN ROWS OF THIS SEAT. 6 by the template 'for every input the law returns true; each argument reads behind the call as it read before'; 0 by the template 'total and deterministic' (their statements: YtkapbkkbkfmidaaDoorTotals.lean).
  GIVEN WITH THE SEED: the statements are not yours to turn. If you find one false, say at which input.
  Laid BY PROGRAM, IN A SANDBOX (cutbox-rows.mjs): the forced cells as the released guide's own fill.sh prints them over the translation 272d324026703fba… (all of the seat's roots in one cut). By AI agents, Wed Nov 11 2026. No macro, syntax, notation, axiom, sorry.
-/
import Derived.Test.YtkapbkkbkfmidaaDoorChecked
import GoSem.Claim
import GoSem.ClaimJoined
import GoSem.ClaimMapViews
import Derived.JoinedTies
import Derived.KernelRfl
namespace Go.Proofs.YtkapbkkbkfmidaaDoor
/- THE CELL 'sum', in the pinned program and in every row, IS THE sha256 OF THE DUMP (.gsa) THAT YtkapbkkbkfmidaaDoorProg.lean LOADS. Nothing in Lean hashes anything: it is a label: what it is worth is what the hold of that sum in a sandbox is worth. -/
noncomputable def Tryd.pinned : Pinned := { name := "ytkapbkkbkfmidaadoor", sum := "272d324026703fba51007ca9273293a762947559a6dc653ea86d94c7c5bc3db4", checked := Tryd.checked }
namespace Rows
def none {H : Type} : Left H := { results := [], args := [] }

/- WHAT THE LISTED PACKAGE-LEVEL VARIABLES READ AS WHEN THE CALL BEGINS. Each datum BY PROGRAM (the guide's laid-datum.mjs) off the statement by which the dump's own 'gosem.cut.vars' lays the variable. In a bare row this is a premise. The card (YtkapbkkbkfmidaaDoorCards.lean) ties it to the program's text. -/
def laid_permafrost_sum_cubeRoots {H : Type} : DataW H := .agg [.lit (.int .u32 1116352408), .lit (.int .u32 1899447441), .lit (.int .u32 3049323471), .lit (.int .u32 3921009573), .lit (.int .u32 961987163), .lit (.int .u32 1508970993), .lit (.int .u32 2453635748), .lit (.int .u32 2870763221), .lit (.int .u32 3624381080), .lit (.int .u32 310598401), .lit (.int .u32 607225278), .lit (.int .u32 1426881987), .lit (.int .u32 1925078388), .lit (.int .u32 2162078206), .lit (.int .u32 2614888103), .lit (.int .u32 3248222580), .lit (.int .u32 3835390401), .lit (.int .u32 4022224774), .lit (.int .u32 264347078), .lit (.int .u32 604807628), .lit (.int .u32 770255983), .lit (.int .u32 1249150122), .lit (.int .u32 1555081692), .lit (.int .u32 1996064986), .lit (.int .u32 2554220882), .lit (.int .u32 2821834349), .lit (.int .u32 2952996808), .lit (.int .u32 3210313671), .lit (.int .u32 3336571891), .lit (.int .u32 3584528711), .lit (.int .u32 113926993), .lit (.int .u32 338241895), .lit (.int .u32 666307205), .lit (.int .u32 773529912), .lit (.int .u32 1294757372), .lit (.int .u32 1396182291), .lit (.int .u32 1695183700), .lit (.int .u32 1986661051), .lit (.int .u32 2177026350), .lit (.int .u32 2456956037), .lit (.int .u32 2730485921), .lit (.int .u32 2820302411), .lit (.int .u32 3259730800), .lit (.int .u32 3345764771), .lit (.int .u32 3516065817), .lit (.int .u32 3600352804), .lit (.int .u32 4094571909), .lit (.int .u32 275423344), .lit (.int .u32 430227734), .lit (.int .u32 506948616), .lit (.int .u32 659060556), .lit (.int .u32 883997877), .lit (.int .u32 958139571), .lit (.int .u32 1322822218), .lit (.int .u32 1537002063), .lit (.int .u32 1747873779), .lit (.int .u32 1955562222), .lit (.int .u32 2024104815), .lit (.int .u32 2227730452), .lit (.int .u32 2361852424), .lit (.int .u32 2428436474), .lit (.int .u32 2756734187), .lit (.int .u32 3204031479), .lit (.int .u32 3329325298)]

/-- 'permafrostlaw02.SumOf': WHATEVER THE INPUT: true; the input reads as it did. -/
def sumOfSpec : ChangeSpec := { name := "sumOf", fn := fun _ => fun
  | [d] => { results := [.lit (.bool true)], args := [d] }
  | _ => none }
def sumOfRow : OpenClaim := { program := "ytkapbkkbkfmidaadoor", sum := "272d324026703fba51007ca9273293a762947559a6dc653ea86d94c7c5bc3db4", func := "permafrost/permafrostlaw02.SumOf", spec := "sumOf", named := ["permafrost/sum.cubeRoots"], apart := false, laid := [("permafrost/sum.cubeRoots", laid_permafrost_sum_cubeRoots)] }
def SumOfSaid : Prop := sumOfRow.holds Tryd.pinned (OpenSpec.ofChange sumOfSpec)

/-- ITS FALSE NEIGHBOUR: 'it returns false'. Refute it at one input. -/
def sumOfWrong : ChangeSpec := { name := "sumOf", fn := fun _ => fun
  | [d] => { results := [.lit (.bool false)], args := [d] }
  | _ => none }
def SumOfWrongFalsely : Prop := sumOfRow.holds Tryd.pinned (OpenSpec.ofChange sumOfWrong)

/-- 'permafrostlaw06.UberEncodes': WHATEVER THE INPUT: true; the input reads as it did. -/
def uberEncodesSpec : ChangeSpec := { name := "uberEncodes", fn := fun _ => fun
  | [d1, d2] => { results := [.lit (.bool true)], args := [d1, d2] }
  | _ => none }
def uberEncodesRow : OpenClaim := { program := "ytkapbkkbkfmidaadoor", sum := "272d324026703fba51007ca9273293a762947559a6dc653ea86d94c7c5bc3db4", func := "permafrost/permafrostlaw06.UberEncodes", spec := "uberEncodes", unfollowed := true, recurses := true, named := ["permafrost/sum.cubeRoots"], apart := false, laid := [("permafrost/sum.cubeRoots", laid_permafrost_sum_cubeRoots)] }
def UberEncodesSaid : Prop := uberEncodesRow.holds Tryd.pinned (OpenSpec.ofChange uberEncodesSpec)

/-- ITS FALSE NEIGHBOUR: 'it returns false'. Refute it at one input. -/
def uberEncodesWrong : ChangeSpec := { name := "uberEncodes", fn := fun _ => fun
  | [d1, d2] => { results := [.lit (.bool false)], args := [d1, d2] }
  | _ => none }
def UberEncodesWrongFalsely : Prop := uberEncodesRow.holds Tryd.pinned (OpenSpec.ofChange uberEncodesWrong)

/-- 'permafrostlaw06.UberCrash': WHATEVER THE INPUT: true; the input reads as it did. -/
def uberCrashSpec : ChangeSpec := { name := "uberCrash", fn := fun _ => fun
  | [d] => { results := [.lit (.bool true)], args := [d] }
  | _ => none }
def uberCrashRow : OpenClaim := { program := "ytkapbkkbkfmidaadoor", sum := "272d324026703fba51007ca9273293a762947559a6dc653ea86d94c7c5bc3db4", func := "permafrost/permafrostlaw06.UberCrash", spec := "uberCrash", unfollowed := true, recurses := true, named := ["permafrost/sum.cubeRoots"], apart := false, laid := [("permafrost/sum.cubeRoots", laid_permafrost_sum_cubeRoots)] }
def UberCrashSaid : Prop := uberCrashRow.holds Tryd.pinned (OpenSpec.ofChange uberCrashSpec)

/-- ITS FALSE NEIGHBOUR: 'it returns false'. Refute it at one input. -/
def uberCrashWrong : ChangeSpec := { name := "uberCrash", fn := fun _ => fun
  | [d] => { results := [.lit (.bool false)], args := [d] }
  | _ => none }
def UberCrashWrongFalsely : Prop := uberCrashRow.holds Tryd.pinned (OpenSpec.ofChange uberCrashWrong)

/-- 'permafrostlaw06.UberLoss': WHATEVER THE INPUT: true; the input reads as it did. -/
def uberLossSpec : ChangeSpec := { name := "uberLoss", fn := fun _ => fun
  | [d1, d2] => { results := [.lit (.bool true)], args := [d1, d2] }
  | _ => none }
def uberLossRow : OpenClaim := { program := "ytkapbkkbkfmidaadoor", sum := "272d324026703fba51007ca9273293a762947559a6dc653ea86d94c7c5bc3db4", func := "permafrost/permafrostlaw06.UberLoss", spec := "uberLoss", unfollowed := true, recurses := true, named := ["permafrost/sum.cubeRoots"], apart := false, laid := [("permafrost/sum.cubeRoots", laid_permafrost_sum_cubeRoots)] }
def UberLossSaid : Prop := uberLossRow.holds Tryd.pinned (OpenSpec.ofChange uberLossSpec)

/-- ITS FALSE NEIGHBOUR: 'it returns false'. Refute it at one input. -/
def uberLossWrong : ChangeSpec := { name := "uberLoss", fn := fun _ => fun
  | [d1, d2] => { results := [.lit (.bool false)], args := [d1, d2] }
  | _ => none }
def UberLossWrongFalsely : Prop := uberLossRow.holds Tryd.pinned (OpenSpec.ofChange uberLossWrong)

/-- 'permafrostlaw06.UberBack': WHATEVER THE INPUT: true; the input reads as it did. -/
def uberBackSpec : ChangeSpec := { name := "uberBack", fn := fun _ => fun
  | [d1, d2] => { results := [.lit (.bool true)], args := [d1, d2] }
  | _ => none }
def uberBackRow : OpenClaim := { program := "ytkapbkkbkfmidaadoor", sum := "272d324026703fba51007ca9273293a762947559a6dc653ea86d94c7c5bc3db4", func := "permafrost/permafrostlaw06.UberBack", spec := "uberBack", unfollowed := true, recurses := true, named := ["permafrost/sum.cubeRoots"], apart := false, laid := [("permafrost/sum.cubeRoots", laid_permafrost_sum_cubeRoots)] }
def UberBackSaid : Prop := uberBackRow.holds Tryd.pinned (OpenSpec.ofChange uberBackSpec)

/-- ITS FALSE NEIGHBOUR: 'it returns false'. Refute it at one input. -/
def uberBackWrong : ChangeSpec := { name := "uberBack", fn := fun _ => fun
  | [d1, d2] => { results := [.lit (.bool false)], args := [d1, d2] }
  | _ => none }
def UberBackWrongFalsely : Prop := uberBackRow.holds Tryd.pinned (OpenSpec.ofChange uberBackWrong)

/-- 'permafrostlaw06.UberNewest': WHATEVER THE INPUT: true; the input reads as it did. -/
def uberNewestSpec : ChangeSpec := { name := "uberNewest", fn := fun _ => fun
  | [d1, d2] => { results := [.lit (.bool true)], args := [d1, d2] }
  | _ => none }
def uberNewestRow : OpenClaim := { program := "ytkapbkkbkfmidaadoor", sum := "272d324026703fba51007ca9273293a762947559a6dc653ea86d94c7c5bc3db4", func := "permafrost/permafrostlaw06.UberNewest", spec := "uberNewest", unfollowed := true, recurses := true, named := ["permafrost/sum.cubeRoots"], apart := false, laid := [("permafrost/sum.cubeRoots", laid_permafrost_sum_cubeRoots)] }
def UberNewestSaid : Prop := uberNewestRow.holds Tryd.pinned (OpenSpec.ofChange uberNewestSpec)

/-- ITS FALSE NEIGHBOUR: 'it returns false'. Refute it at one input. -/
def uberNewestWrong : ChangeSpec := { name := "uberNewest", fn := fun _ => fun
  | [d1, d2] => { results := [.lit (.bool false)], args := [d1, d2] }
  | _ => none }
def UberNewestWrongFalsely : Prop := uberNewestRow.holds Tryd.pinned (OpenSpec.ofChange uberNewestWrong)

/- THE SECOND FORM. 'bulk': how many values and letters a reading holds, each counted each time it is reached (what is shared counts as often as it is met; a slice's spare places count too). A statement '..UptoSaid' is the law's where the arguments, and the package variables that the reading takes, are together of bulk at most 1048576: NARROWER than '..Said'. Prove '..Said' where nothing that the law and all that it calls make is longer than what came in: it says more and counts as full. Else prove '..UptoSaid'. A law counts once. -/
mutual
def uptoBulk {H : Type} : DataW H → Nat
  | .lit (.string bytes) => bytes.length + 1
  | .lit _ => 1
  | .nil => 1
  | .ptr d => uptoBulk d + 1
  | .slice elems spare => uptoBulkAll elems + uptoBulkAll spare + 1
  | .agg parts => uptoBulkAll parts + 1
  | .iface _ d => uptoBulk d + 1
  | .map entries => uptoBulkEntries entries + 1
  | .held _ => 1
def uptoBulkAll {H : Type} : List (DataW H) → Nat
  | [] => 0
  | d :: r => uptoBulk d + uptoBulkAll r
def uptoBulkEntries {H : Type} : List (Lit × DataW H) → Nat
  | [] => 0
  | x :: r => uptoBulkEntry x + uptoBulkEntries r
def uptoBulkEntry {H : Type} : Lit × DataW H → Nat
  | (.string bytes, d) => bytes.length + uptoBulk d + 1
  | (_, d) => uptoBulk d + 1
 end
def uptoSmall : (H : Type) → List (DataW H) → Bool := fun _ ds => decide (uptoBulkAll ds ≤ 1048576)
def OpenSpec.upto (s : _root_.Go.ChangeSpec) : _root_.Go.OpenSpec := { _root_.Go.OpenSpec.ofChange s with cond := some uptoSmall }

/-- 'permafrostlaw02.SumOf', WHERE WHAT IT READS IS OF BULK AT MOST 1048576: true; the input reads as it did. -/
def sumOfUptoRow : OpenClaim := { program := "ytkapbkkbkfmidaadoor", sum := "272d324026703fba51007ca9273293a762947559a6dc653ea86d94c7c5bc3db4", func := "permafrost/permafrostlaw02.SumOf", spec := "sumOf", named := ["permafrost/sum.cubeRoots"], apart := false, laid := [("permafrost/sum.cubeRoots", laid_permafrost_sum_cubeRoots)], narrowed := true }
def SumOfUptoSaid : Prop := sumOfUptoRow.holds Tryd.pinned (OpenSpec.upto sumOfSpec)

/-- 'permafrostlaw06.UberEncodes', WHERE WHAT IT READS IS OF BULK AT MOST 1048576: true; the input reads as it did. -/
def uberEncodesUptoRow : OpenClaim := { program := "ytkapbkkbkfmidaadoor", sum := "272d324026703fba51007ca9273293a762947559a6dc653ea86d94c7c5bc3db4", func := "permafrost/permafrostlaw06.UberEncodes", spec := "uberEncodes", unfollowed := true, recurses := true, named := ["permafrost/sum.cubeRoots"], apart := false, laid := [("permafrost/sum.cubeRoots", laid_permafrost_sum_cubeRoots)], narrowed := true }
def UberEncodesUptoSaid : Prop := uberEncodesUptoRow.holds Tryd.pinned (OpenSpec.upto uberEncodesSpec)

/-- 'permafrostlaw06.UberCrash', WHERE WHAT IT READS IS OF BULK AT MOST 1048576: true; the input reads as it did. -/
def uberCrashUptoRow : OpenClaim := { program := "ytkapbkkbkfmidaadoor", sum := "272d324026703fba51007ca9273293a762947559a6dc653ea86d94c7c5bc3db4", func := "permafrost/permafrostlaw06.UberCrash", spec := "uberCrash", unfollowed := true, recurses := true, named := ["permafrost/sum.cubeRoots"], apart := false, laid := [("permafrost/sum.cubeRoots", laid_permafrost_sum_cubeRoots)], narrowed := true }
def UberCrashUptoSaid : Prop := uberCrashUptoRow.holds Tryd.pinned (OpenSpec.upto uberCrashSpec)

/-- 'permafrostlaw06.UberLoss', WHERE WHAT IT READS IS OF BULK AT MOST 1048576: true; the input reads as it did. -/
def uberLossUptoRow : OpenClaim := { program := "ytkapbkkbkfmidaadoor", sum := "272d324026703fba51007ca9273293a762947559a6dc653ea86d94c7c5bc3db4", func := "permafrost/permafrostlaw06.UberLoss", spec := "uberLoss", unfollowed := true, recurses := true, named := ["permafrost/sum.cubeRoots"], apart := false, laid := [("permafrost/sum.cubeRoots", laid_permafrost_sum_cubeRoots)], narrowed := true }
def UberLossUptoSaid : Prop := uberLossUptoRow.holds Tryd.pinned (OpenSpec.upto uberLossSpec)

/-- 'permafrostlaw06.UberBack', WHERE WHAT IT READS IS OF BULK AT MOST 1048576: true; the input reads as it did. -/
def uberBackUptoRow : OpenClaim := { program := "ytkapbkkbkfmidaadoor", sum := "272d324026703fba51007ca9273293a762947559a6dc653ea86d94c7c5bc3db4", func := "permafrost/permafrostlaw06.UberBack", spec := "uberBack", unfollowed := true, recurses := true, named := ["permafrost/sum.cubeRoots"], apart := false, laid := [("permafrost/sum.cubeRoots", laid_permafrost_sum_cubeRoots)], narrowed := true }
def UberBackUptoSaid : Prop := uberBackUptoRow.holds Tryd.pinned (OpenSpec.upto uberBackSpec)

/-- 'permafrostlaw06.UberNewest', WHERE WHAT IT READS IS OF BULK AT MOST 1048576: true; the input reads as it did. -/
def uberNewestUptoRow : OpenClaim := { program := "ytkapbkkbkfmidaadoor", sum := "272d324026703fba51007ca9273293a762947559a6dc653ea86d94c7c5bc3db4", func := "permafrost/permafrostlaw06.UberNewest", spec := "uberNewest", unfollowed := true, recurses := true, named := ["permafrost/sum.cubeRoots"], apart := false, laid := [("permafrost/sum.cubeRoots", laid_permafrost_sum_cubeRoots)], narrowed := true }
def UberNewestUptoSaid : Prop := uberNewestUptoRow.holds Tryd.pinned (OpenSpec.upto uberNewestSpec)

end Rows
end Go.Proofs.YtkapbkkbkfmidaaDoor
