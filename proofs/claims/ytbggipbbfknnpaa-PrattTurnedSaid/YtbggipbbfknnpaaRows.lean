/-
  No cell of these rows narrows 'for every input' (looked for: loops, veiled, ifaces, maps, wideKeys, modest, calm, conditions, laid).
  DERIVED. THE GIVEN ROWS OF THIS SEAT. 7 by the template 'for every input the law returns true; each argument reads behind the call as it read before'; 0 by the template 'total and deterministic' (their statements: YtbggipbbfknnpaaTotals.lean).
  GIVEN WITH THE SEED: the statements are not yours to turn. If you find one false, say at which input.
  Laid BY PROGRAM, IN A SANDBOX (cutbox-rows.mjs): the forced cells as the released guide's own fill.sh prints them over the translation 5af958ebc7e47e6b… (all of the seat's roots in one cut). By AI agents, Wed Nov 11 2026. No macro, syntax, notation, axiom, sorry.
-/
import Derived.Test.YtbggipbbfknnpaaChecked
import GoSem.Claim
import GoSem.ClaimJoined
import GoSem.ClaimMapViews
import Derived.JoinedTies
import Derived.KernelRfl
namespace Go.Proofs.Ytbggipbbfknnpaa
/- THE CELL 'sum', in the pinned program and in every row, IS THE sha256 OF THE DUMP (.gsa) THAT YtbggipbbfknnpaaProg.lean LOADS. Nothing in Lean hashes anything: it is a label: what it is worth is what the hold of that sum in a sandbox is worth. -/
noncomputable def Try.pinned : Pinned := { name := "ytbggipbbfknnpaa", sum := "5af958ebc7e47e6b99a2ca8cba6f723f12555317117e3646ed27b003221f4f03", checked := Try.checked }
namespace Rows
def none {H : Type} : Left H := { results := [], args := [] }

/-- 'sortitionlaw04.PrattProducts': WHATEVER THE INPUT: true; the input reads as it did. -/
def prattProductsSpec : ChangeSpec := { name := "prattProducts", fn := fun _ => fun
  | [d] => { results := [.lit (.bool true)], args := [d] }
  | _ => none }
def prattProductsRow : OpenClaim := { program := "ytbggipbbfknnpaa", sum := "5af958ebc7e47e6b99a2ca8cba6f723f12555317117e3646ed27b003221f4f03", func := "sortition/sortitionlaw04.PrattProducts", spec := "prattProducts", inPlace := ["math/bits.Add64", "math/bits.Sub64", "sync/atomic.LoadUint32", "(*internal/sync.Mutex).Lock", "internal/race.Disable", "sync/atomic.CompareAndSwapInt32", "internal/race.Enable", "internal/race.Acquire", "(*internal/sync.Mutex).lockSlow", "internal/sync.runtime_canSpin", "internal/sync.runtime_doSpin", "internal/sync.throw", "internal/sync.runtime_nanotime", "internal/sync.runtime_SemacquireMutex", "sync/atomic.AddInt32", "(*internal/sync.Mutex).Unlock", "internal/race.ReleaseMerge", "(*internal/sync.Mutex).unlockSlow", "internal/sync.fatal", "internal/sync.runtime_Semrelease", "sync/atomic.StoreUint32"], unfollowed := true, recurses := true, plainKeys := false, apart := false }
def PrattProductsSaid : Prop := prattProductsRow.holds Try.pinned (OpenSpec.ofChange prattProductsSpec)

/-- ITS FALSE NEIGHBOUR: 'it returns false'. Refute it at one input. -/
def prattProductsWrong : ChangeSpec := { name := "prattProducts", fn := fun _ => fun
  | [d] => { results := [.lit (.bool false)], args := [d] }
  | _ => none }
def PrattProductsWrongFalsely : Prop := prattProductsRow.holds Try.pinned (OpenSpec.ofChange prattProductsWrong)

/-- 'sortitionlaw04.PrattSteps': WHATEVER THE INPUT: true; the input reads as it did. -/
def prattStepsSpec : ChangeSpec := { name := "prattSteps", fn := fun _ => fun
  | [d] => { results := [.lit (.bool true)], args := [d] }
  | _ => none }
def prattStepsRow : OpenClaim := { program := "ytbggipbbfknnpaa", sum := "5af958ebc7e47e6b99a2ca8cba6f723f12555317117e3646ed27b003221f4f03", func := "sortition/sortitionlaw04.PrattSteps", spec := "prattSteps", inPlace := ["math/bits.Add64", "math/bits.Sub64", "sync/atomic.LoadUint32", "(*internal/sync.Mutex).Lock", "internal/race.Disable", "sync/atomic.CompareAndSwapInt32", "internal/race.Enable", "internal/race.Acquire", "(*internal/sync.Mutex).lockSlow", "internal/sync.runtime_canSpin", "internal/sync.runtime_doSpin", "internal/sync.throw", "internal/sync.runtime_nanotime", "internal/sync.runtime_SemacquireMutex", "sync/atomic.AddInt32", "(*internal/sync.Mutex).Unlock", "internal/race.ReleaseMerge", "(*internal/sync.Mutex).unlockSlow", "internal/sync.fatal", "internal/sync.runtime_Semrelease", "sync/atomic.StoreUint32"], unfollowed := true, recurses := true, plainKeys := false, apart := false }
def PrattStepsSaid : Prop := prattStepsRow.holds Try.pinned (OpenSpec.ofChange prattStepsSpec)

/-- ITS FALSE NEIGHBOUR: 'it returns false'. Refute it at one input. -/
def prattStepsWrong : ChangeSpec := { name := "prattSteps", fn := fun _ => fun
  | [d] => { results := [.lit (.bool false)], args := [d] }
  | _ => none }
def PrattStepsWrongFalsely : Prop := prattStepsRow.holds Try.pinned (OpenSpec.ofChange prattStepsWrong)

/-- 'sortitionlaw04.PrattChecks': WHATEVER THE INPUT: true; the input reads as it did. -/
def prattChecksSpec : ChangeSpec := { name := "prattChecks", fn := fun _ => fun
  | [d1, d2] => { results := [.lit (.bool true)], args := [d1, d2] }
  | _ => none }
def prattChecksRow : OpenClaim := { program := "ytbggipbbfknnpaa", sum := "5af958ebc7e47e6b99a2ca8cba6f723f12555317117e3646ed27b003221f4f03", func := "sortition/sortitionlaw04.PrattChecks", spec := "prattChecks", inPlace := ["math/bits.Add64", "math/bits.Sub64", "sync/atomic.LoadUint32", "(*internal/sync.Mutex).Lock", "internal/race.Disable", "sync/atomic.CompareAndSwapInt32", "internal/race.Enable", "internal/race.Acquire", "(*internal/sync.Mutex).lockSlow", "internal/sync.runtime_canSpin", "internal/sync.runtime_doSpin", "internal/sync.throw", "internal/sync.runtime_nanotime", "internal/sync.runtime_SemacquireMutex", "sync/atomic.AddInt32", "(*internal/sync.Mutex).Unlock", "internal/race.ReleaseMerge", "(*internal/sync.Mutex).unlockSlow", "internal/sync.fatal", "internal/sync.runtime_Semrelease", "sync/atomic.StoreUint32"], unfollowed := true, recurses := true, plainKeys := false, apart := false }
def PrattChecksSaid : Prop := prattChecksRow.holds Try.pinned (OpenSpec.ofChange prattChecksSpec)

/-- ITS FALSE NEIGHBOUR: 'it returns false'. Refute it at one input. -/
def prattChecksWrong : ChangeSpec := { name := "prattChecks", fn := fun _ => fun
  | [d1, d2] => { results := [.lit (.bool false)], args := [d1, d2] }
  | _ => none }
def PrattChecksWrongFalsely : Prop := prattChecksRow.holds Try.pinned (OpenSpec.ofChange prattChecksWrong)

/-- 'sortitionlaw04.PrattPrime': WHATEVER THE INPUT: true; the input reads as it did. -/
def prattPrimeSpec : ChangeSpec := { name := "prattPrime", fn := fun _ => fun
  | [d1, d2] => { results := [.lit (.bool true)], args := [d1, d2] }
  | _ => none }
def prattPrimeRow : OpenClaim := { program := "ytbggipbbfknnpaa", sum := "5af958ebc7e47e6b99a2ca8cba6f723f12555317117e3646ed27b003221f4f03", func := "sortition/sortitionlaw04.PrattPrime", spec := "prattPrime", inPlace := ["math/bits.Add64", "math/bits.Sub64", "sync/atomic.LoadUint32", "(*internal/sync.Mutex).Lock", "internal/race.Disable", "sync/atomic.CompareAndSwapInt32", "internal/race.Enable", "internal/race.Acquire", "(*internal/sync.Mutex).lockSlow", "internal/sync.runtime_canSpin", "internal/sync.runtime_doSpin", "internal/sync.throw", "internal/sync.runtime_nanotime", "internal/sync.runtime_SemacquireMutex", "sync/atomic.AddInt32", "(*internal/sync.Mutex).Unlock", "internal/race.ReleaseMerge", "(*internal/sync.Mutex).unlockSlow", "internal/sync.fatal", "internal/sync.runtime_Semrelease", "sync/atomic.StoreUint32"], unfollowed := true, recurses := true, plainKeys := false, apart := false }
def PrattPrimeSaid : Prop := prattPrimeRow.holds Try.pinned (OpenSpec.ofChange prattPrimeSpec)

/-- ITS FALSE NEIGHBOUR: 'it returns false'. Refute it at one input. -/
def prattPrimeWrong : ChangeSpec := { name := "prattPrime", fn := fun _ => fun
  | [d1, d2] => { results := [.lit (.bool false)], args := [d1, d2] }
  | _ => none }
def PrattPrimeWrongFalsely : Prop := prattPrimeRow.holds Try.pinned (OpenSpec.ofChange prattPrimeWrong)

/-- 'sortitionlaw04.PrattMore': WHATEVER THE INPUT: true; the input reads as it did. -/
def prattMoreSpec : ChangeSpec := { name := "prattMore", fn := fun _ => fun
  | [d1, d2, d3] => { results := [.lit (.bool true)], args := [d1, d2, d3] }
  | _ => none }
def prattMoreRow : OpenClaim := { program := "ytbggipbbfknnpaa", sum := "5af958ebc7e47e6b99a2ca8cba6f723f12555317117e3646ed27b003221f4f03", func := "sortition/sortitionlaw04.PrattMore", spec := "prattMore", inPlace := ["math/bits.Add64", "math/bits.Sub64", "sync/atomic.LoadUint32", "(*internal/sync.Mutex).Lock", "internal/race.Disable", "sync/atomic.CompareAndSwapInt32", "internal/race.Enable", "internal/race.Acquire", "(*internal/sync.Mutex).lockSlow", "internal/sync.runtime_canSpin", "internal/sync.runtime_doSpin", "internal/sync.throw", "internal/sync.runtime_nanotime", "internal/sync.runtime_SemacquireMutex", "sync/atomic.AddInt32", "(*internal/sync.Mutex).Unlock", "internal/race.ReleaseMerge", "(*internal/sync.Mutex).unlockSlow", "internal/sync.fatal", "internal/sync.runtime_Semrelease", "sync/atomic.StoreUint32"], unfollowed := true, recurses := true, plainKeys := false, apart := false }
def PrattMoreSaid : Prop := prattMoreRow.holds Try.pinned (OpenSpec.ofChange prattMoreSpec)

/-- ITS FALSE NEIGHBOUR: 'it returns false'. Refute it at one input. -/
def prattMoreWrong : ChangeSpec := { name := "prattMore", fn := fun _ => fun
  | [d1, d2, d3] => { results := [.lit (.bool false)], args := [d1, d2, d3] }
  | _ => none }
def PrattMoreWrongFalsely : Prop := prattMoreRow.holds Try.pinned (OpenSpec.ofChange prattMoreWrong)

/-- 'sortitionlaw04.PrattTurned': WHATEVER THE INPUT: true; the input reads as it did. -/
def prattTurnedSpec : ChangeSpec := { name := "prattTurned", fn := fun _ => fun
  | [d] => { results := [.lit (.bool true)], args := [d] }
  | _ => none }
def prattTurnedRow : OpenClaim := { program := "ytbggipbbfknnpaa", sum := "5af958ebc7e47e6b99a2ca8cba6f723f12555317117e3646ed27b003221f4f03", func := "sortition/sortitionlaw04.PrattTurned", spec := "prattTurned", inPlace := ["math/bits.Add64", "math/bits.Sub64", "sync/atomic.LoadUint32", "(*internal/sync.Mutex).Lock", "internal/race.Disable", "sync/atomic.CompareAndSwapInt32", "internal/race.Enable", "internal/race.Acquire", "(*internal/sync.Mutex).lockSlow", "internal/sync.runtime_canSpin", "internal/sync.runtime_doSpin", "internal/sync.throw", "internal/sync.runtime_nanotime", "internal/sync.runtime_SemacquireMutex", "sync/atomic.AddInt32", "(*internal/sync.Mutex).Unlock", "internal/race.ReleaseMerge", "(*internal/sync.Mutex).unlockSlow", "internal/sync.fatal", "internal/sync.runtime_Semrelease", "sync/atomic.StoreUint32"], unfollowed := true, recurses := true, plainKeys := false, apart := false }
def PrattTurnedSaid : Prop := prattTurnedRow.holds Try.pinned (OpenSpec.ofChange prattTurnedSpec)

/-- ITS FALSE NEIGHBOUR: 'it returns false'. Refute it at one input. -/
def prattTurnedWrong : ChangeSpec := { name := "prattTurned", fn := fun _ => fun
  | [d] => { results := [.lit (.bool false)], args := [d] }
  | _ => none }
def PrattTurnedWrongFalsely : Prop := prattTurnedRow.holds Try.pinned (OpenSpec.ofChange prattTurnedWrong)

/-- 'sortitionlaw04.PrattOdd': WHATEVER THE INPUT: true; the input reads as it did. -/
def prattOddSpec : ChangeSpec := { name := "prattOdd", fn := fun _ => fun
  | [d1, d2] => { results := [.lit (.bool true)], args := [d1, d2] }
  | _ => none }
def prattOddRow : OpenClaim := { program := "ytbggipbbfknnpaa", sum := "5af958ebc7e47e6b99a2ca8cba6f723f12555317117e3646ed27b003221f4f03", func := "sortition/sortitionlaw04.PrattOdd", spec := "prattOdd", inPlace := ["math/bits.Add64", "math/bits.Sub64", "sync/atomic.LoadUint32", "(*internal/sync.Mutex).Lock", "internal/race.Disable", "sync/atomic.CompareAndSwapInt32", "internal/race.Enable", "internal/race.Acquire", "(*internal/sync.Mutex).lockSlow", "internal/sync.runtime_canSpin", "internal/sync.runtime_doSpin", "internal/sync.throw", "internal/sync.runtime_nanotime", "internal/sync.runtime_SemacquireMutex", "sync/atomic.AddInt32", "(*internal/sync.Mutex).Unlock", "internal/race.ReleaseMerge", "(*internal/sync.Mutex).unlockSlow", "internal/sync.fatal", "internal/sync.runtime_Semrelease", "sync/atomic.StoreUint32"], unfollowed := true, recurses := true, plainKeys := false, apart := false }
def PrattOddSaid : Prop := prattOddRow.holds Try.pinned (OpenSpec.ofChange prattOddSpec)

/-- ITS FALSE NEIGHBOUR: 'it returns false'. Refute it at one input. -/
def prattOddWrong : ChangeSpec := { name := "prattOdd", fn := fun _ => fun
  | [d1, d2] => { results := [.lit (.bool false)], args := [d1, d2] }
  | _ => none }
def PrattOddWrongFalsely : Prop := prattOddRow.holds Try.pinned (OpenSpec.ofChange prattOddWrong)

/- THE SECOND FORM. 'bulk': how many values and letters a reading holds, each counted each time it is reached (what is shared counts as often as it is met; a slice's spare places count too). A statement '..UptoSaid' is the law's where the arguments, and the package variables that the reading takes, are together of bulk at most 1048576: NARROWER than '..Said'. Prove '..Said' where nothing that the law and all that it calls make is longer than what came in: it says more and counts as full. Else prove '..UptoSaid'. A law counts once. -/
mutual
def uptoBulk {H : Type} : DataW H → Nat
  | .lit (.string bytes) => bytes.length + 1
  | .lit _ => 1
  | .nil => 1
  | .ptr d => uptoBulk d + 1
  | .slice elems spare => uptoBulkAll elems + uptoBulkAll spare + 1
  | .agg parts => uptoBulkAll parts + 1
  | .iface _ d => uptoBulk d + 1
  | .map entries => uptoBulkEntries entries + 1
  | .held _ => 1
def uptoBulkAll {H : Type} : List (DataW H) → Nat
  | [] => 0
  | d :: r => uptoBulk d + uptoBulkAll r
def uptoBulkEntries {H : Type} : List (Lit × DataW H) → Nat
  | [] => 0
  | x :: r => uptoBulkEntry x + uptoBulkEntries r
def uptoBulkEntry {H : Type} : Lit × DataW H → Nat
  | (.string bytes, d) => bytes.length + uptoBulk d + 1
  | (_, d) => uptoBulk d + 1
 end
def uptoSmall : (H : Type) → List (DataW H) → Bool := fun _ ds => decide (uptoBulkAll ds ≤ 1048576)
def OpenSpec.upto (s : _root_.Go.ChangeSpec) : _root_.Go.OpenSpec := { _root_.Go.OpenSpec.ofChange s with cond := some uptoSmall }

/-- 'sortitionlaw04.PrattProducts', WHERE WHAT IT READS IS OF BULK AT MOST 1048576: true; the input reads as it did. -/
def prattProductsUptoRow : OpenClaim := { program := "ytbggipbbfknnpaa", sum := "5af958ebc7e47e6b99a2ca8cba6f723f12555317117e3646ed27b003221f4f03", func := "sortition/sortitionlaw04.PrattProducts", spec := "prattProducts", inPlace := ["math/bits.Add64", "math/bits.Sub64", "sync/atomic.LoadUint32", "(*internal/sync.Mutex).Lock", "internal/race.Disable", "sync/atomic.CompareAndSwapInt32", "internal/race.Enable", "internal/race.Acquire", "(*internal/sync.Mutex).lockSlow", "internal/sync.runtime_canSpin", "internal/sync.runtime_doSpin", "internal/sync.throw", "internal/sync.runtime_nanotime", "internal/sync.runtime_SemacquireMutex", "sync/atomic.AddInt32", "(*internal/sync.Mutex).Unlock", "internal/race.ReleaseMerge", "(*internal/sync.Mutex).unlockSlow", "internal/sync.fatal", "internal/sync.runtime_Semrelease", "sync/atomic.StoreUint32"], unfollowed := true, recurses := true, plainKeys := false, apart := false, narrowed := true }
def PrattProductsUptoSaid : Prop := prattProductsUptoRow.holds Try.pinned (OpenSpec.upto prattProductsSpec)

/-- 'sortitionlaw04.PrattSteps', WHERE WHAT IT READS IS OF BULK AT MOST 1048576: true; the input reads as it did. -/
def prattStepsUptoRow : OpenClaim := { program := "ytbggipbbfknnpaa", sum := "5af958ebc7e47e6b99a2ca8cba6f723f12555317117e3646ed27b003221f4f03", func := "sortition/sortitionlaw04.PrattSteps", spec := "prattSteps", inPlace := ["math/bits.Add64", "math/bits.Sub64", "sync/atomic.LoadUint32", "(*internal/sync.Mutex).Lock", "internal/race.Disable", "sync/atomic.CompareAndSwapInt32", "internal/race.Enable", "internal/race.Acquire", "(*internal/sync.Mutex).lockSlow", "internal/sync.runtime_canSpin", "internal/sync.runtime_doSpin", "internal/sync.throw", "internal/sync.runtime_nanotime", "internal/sync.runtime_SemacquireMutex", "sync/atomic.AddInt32", "(*internal/sync.Mutex).Unlock", "internal/race.ReleaseMerge", "(*internal/sync.Mutex).unlockSlow", "internal/sync.fatal", "internal/sync.runtime_Semrelease", "sync/atomic.StoreUint32"], unfollowed := true, recurses := true, plainKeys := false, apart := false, narrowed := true }
def PrattStepsUptoSaid : Prop := prattStepsUptoRow.holds Try.pinned (OpenSpec.upto prattStepsSpec)

/-- 'sortitionlaw04.PrattChecks', WHERE WHAT IT READS IS OF BULK AT MOST 1048576: true; the input reads as it did. -/
def prattChecksUptoRow : OpenClaim := { program := "ytbggipbbfknnpaa", sum := "5af958ebc7e47e6b99a2ca8cba6f723f12555317117e3646ed27b003221f4f03", func := "sortition/sortitionlaw04.PrattChecks", spec := "prattChecks", inPlace := ["math/bits.Add64", "math/bits.Sub64", "sync/atomic.LoadUint32", "(*internal/sync.Mutex).Lock", "internal/race.Disable", "sync/atomic.CompareAndSwapInt32", "internal/race.Enable", "internal/race.Acquire", "(*internal/sync.Mutex).lockSlow", "internal/sync.runtime_canSpin", "internal/sync.runtime_doSpin", "internal/sync.throw", "internal/sync.runtime_nanotime", "internal/sync.runtime_SemacquireMutex", "sync/atomic.AddInt32", "(*internal/sync.Mutex).Unlock", "internal/race.ReleaseMerge", "(*internal/sync.Mutex).unlockSlow", "internal/sync.fatal", "internal/sync.runtime_Semrelease", "sync/atomic.StoreUint32"], unfollowed := true, recurses := true, plainKeys := false, apart := false, narrowed := true }
def PrattChecksUptoSaid : Prop := prattChecksUptoRow.holds Try.pinned (OpenSpec.upto prattChecksSpec)

/-- 'sortitionlaw04.PrattPrime', WHERE WHAT IT READS IS OF BULK AT MOST 1048576: true; the input reads as it did. -/
def prattPrimeUptoRow : OpenClaim := { program := "ytbggipbbfknnpaa", sum := "5af958ebc7e47e6b99a2ca8cba6f723f12555317117e3646ed27b003221f4f03", func := "sortition/sortitionlaw04.PrattPrime", spec := "prattPrime", inPlace := ["math/bits.Add64", "math/bits.Sub64", "sync/atomic.LoadUint32", "(*internal/sync.Mutex).Lock", "internal/race.Disable", "sync/atomic.CompareAndSwapInt32", "internal/race.Enable", "internal/race.Acquire", "(*internal/sync.Mutex).lockSlow", "internal/sync.runtime_canSpin", "internal/sync.runtime_doSpin", "internal/sync.throw", "internal/sync.runtime_nanotime", "internal/sync.runtime_SemacquireMutex", "sync/atomic.AddInt32", "(*internal/sync.Mutex).Unlock", "internal/race.ReleaseMerge", "(*internal/sync.Mutex).unlockSlow", "internal/sync.fatal", "internal/sync.runtime_Semrelease", "sync/atomic.StoreUint32"], unfollowed := true, recurses := true, plainKeys := false, apart := false, narrowed := true }
def PrattPrimeUptoSaid : Prop := prattPrimeUptoRow.holds Try.pinned (OpenSpec.upto prattPrimeSpec)

/-- 'sortitionlaw04.PrattMore', WHERE WHAT IT READS IS OF BULK AT MOST 1048576: true; the input reads as it did. -/
def prattMoreUptoRow : OpenClaim := { program := "ytbggipbbfknnpaa", sum := "5af958ebc7e47e6b99a2ca8cba6f723f12555317117e3646ed27b003221f4f03", func := "sortition/sortitionlaw04.PrattMore", spec := "prattMore", inPlace := ["math/bits.Add64", "math/bits.Sub64", "sync/atomic.LoadUint32", "(*internal/sync.Mutex).Lock", "internal/race.Disable", "sync/atomic.CompareAndSwapInt32", "internal/race.Enable", "internal/race.Acquire", "(*internal/sync.Mutex).lockSlow", "internal/sync.runtime_canSpin", "internal/sync.runtime_doSpin", "internal/sync.throw", "internal/sync.runtime_nanotime", "internal/sync.runtime_SemacquireMutex", "sync/atomic.AddInt32", "(*internal/sync.Mutex).Unlock", "internal/race.ReleaseMerge", "(*internal/sync.Mutex).unlockSlow", "internal/sync.fatal", "internal/sync.runtime_Semrelease", "sync/atomic.StoreUint32"], unfollowed := true, recurses := true, plainKeys := false, apart := false, narrowed := true }
def PrattMoreUptoSaid : Prop := prattMoreUptoRow.holds Try.pinned (OpenSpec.upto prattMoreSpec)

/-- 'sortitionlaw04.PrattTurned', WHERE WHAT IT READS IS OF BULK AT MOST 1048576: true; the input reads as it did. -/
def prattTurnedUptoRow : OpenClaim := { program := "ytbggipbbfknnpaa", sum := "5af958ebc7e47e6b99a2ca8cba6f723f12555317117e3646ed27b003221f4f03", func := "sortition/sortitionlaw04.PrattTurned", spec := "prattTurned", inPlace := ["math/bits.Add64", "math/bits.Sub64", "sync/atomic.LoadUint32", "(*internal/sync.Mutex).Lock", "internal/race.Disable", "sync/atomic.CompareAndSwapInt32", "internal/race.Enable", "internal/race.Acquire", "(*internal/sync.Mutex).lockSlow", "internal/sync.runtime_canSpin", "internal/sync.runtime_doSpin", "internal/sync.throw", "internal/sync.runtime_nanotime", "internal/sync.runtime_SemacquireMutex", "sync/atomic.AddInt32", "(*internal/sync.Mutex).Unlock", "internal/race.ReleaseMerge", "(*internal/sync.Mutex).unlockSlow", "internal/sync.fatal", "internal/sync.runtime_Semrelease", "sync/atomic.StoreUint32"], unfollowed := true, recurses := true, plainKeys := false, apart := false, narrowed := true }
def PrattTurnedUptoSaid : Prop := prattTurnedUptoRow.holds Try.pinned (OpenSpec.upto prattTurnedSpec)

/-- 'sortitionlaw04.PrattOdd', WHERE WHAT IT READS IS OF BULK AT MOST 1048576: true; the input reads as it did. -/
def prattOddUptoRow : OpenClaim := { program := "ytbggipbbfknnpaa", sum := "5af958ebc7e47e6b99a2ca8cba6f723f12555317117e3646ed27b003221f4f03", func := "sortition/sortitionlaw04.PrattOdd", spec := "prattOdd", inPlace := ["math/bits.Add64", "math/bits.Sub64", "sync/atomic.LoadUint32", "(*internal/sync.Mutex).Lock", "internal/race.Disable", "sync/atomic.CompareAndSwapInt32", "internal/race.Enable", "internal/race.Acquire", "(*internal/sync.Mutex).lockSlow", "internal/sync.runtime_canSpin", "internal/sync.runtime_doSpin", "internal/sync.throw", "internal/sync.runtime_nanotime", "internal/sync.runtime_SemacquireMutex", "sync/atomic.AddInt32", "(*internal/sync.Mutex).Unlock", "internal/race.ReleaseMerge", "(*internal/sync.Mutex).unlockSlow", "internal/sync.fatal", "internal/sync.runtime_Semrelease", "sync/atomic.StoreUint32"], unfollowed := true, recurses := true, plainKeys := false, apart := false, narrowed := true }
def PrattOddUptoSaid : Prop := prattOddUptoRow.holds Try.pinned (OpenSpec.upto prattOddSpec)

end Rows
end Go.Proofs.Ytbggipbbfknnpaa
