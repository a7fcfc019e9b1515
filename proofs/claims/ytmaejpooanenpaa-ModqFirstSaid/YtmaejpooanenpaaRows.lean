/-
  No cell of these rows narrows 'for every input' (looked for: loops, veiled, ifaces, maps, wideKeys, modest, calm, conditions, laid).
  DERIVED. THE GIVEN ROWS OF THIS SEAT. 9 by the template 'for every input the law returns true; each argument reads behind the call as it read before'; 0 by the template 'total and deterministic' (their statements: YtmaejpooanenpaaTotals.lean).
  GIVEN WITH THE SEED: the statements are not yours to turn. If you find one false, say at which input.
  Laid BY PROGRAM, IN A SANDBOX (cutbox-rows.mjs): the forced cells as the released guide's own fill.sh prints them over the translation 061713ed72f2aa44… (all of the seat's roots in one cut). By AI agents, Wed Nov 11 2026. No macro, syntax, notation, axiom, sorry.
-/
import Derived.Test.YtmaejpooanenpaaChecked
import GoSem.Claim
import GoSem.ClaimJoined
import GoSem.ClaimMapViews
import Derived.JoinedTies
import Derived.KernelRfl
namespace Go.Proofs.Ytmaejpooanenpaa
/- THE CELL 'sum', in the pinned program and in every row, IS THE sha256 OF THE DUMP (.gsa) THAT YtmaejpooanenpaaProg.lean LOADS. Nothing in Lean hashes anything: it is a label: what it is worth is what the hold of that sum in a sandbox is worth. -/
noncomputable def Try.pinned : Pinned := { name := "ytmaejpooanenpaa", sum := "061713ed72f2aa44ae961b0837ef8df38a34a258e69180f61502d668b7c674bb", checked := Try.checked }
namespace Rows
def none {H : Type} : Left H := { results := [], args := [] }

/-- 'sortitionlaw03.ModqInverse': WHATEVER THE INPUT: true; the input reads as it did. -/
def modqInverseSpec : ChangeSpec := { name := "modqInverse", fn := fun _ => fun
  | [d1, d2, d3] => { results := [.lit (.bool true)], args := [d1, d2, d3] }
  | _ => none }
def modqInverseRow : OpenClaim := { program := "ytmaejpooanenpaa", sum := "061713ed72f2aa44ae961b0837ef8df38a34a258e69180f61502d668b7c674bb", func := "sortition/sortitionlaw03.ModqInverse", spec := "modqInverse", inPlace := ["math/bits.Add64", "math/bits.Sub64", "sync/atomic.LoadUint32", "(*internal/sync.Mutex).Lock", "internal/race.Disable", "sync/atomic.CompareAndSwapInt32", "internal/race.Enable", "internal/race.Acquire", "(*internal/sync.Mutex).lockSlow", "internal/sync.runtime_canSpin", "internal/sync.runtime_doSpin", "internal/sync.throw", "internal/sync.runtime_nanotime", "internal/sync.runtime_SemacquireMutex", "sync/atomic.AddInt32", "(*internal/sync.Mutex).Unlock", "internal/race.ReleaseMerge", "(*internal/sync.Mutex).unlockSlow", "internal/sync.fatal", "internal/sync.runtime_Semrelease", "sync/atomic.StoreUint32"], unfollowed := true, recurses := true, apart := false }
def ModqInverseSaid : Prop := modqInverseRow.holds Try.pinned (OpenSpec.ofChange modqInverseSpec)

/-- ITS FALSE NEIGHBOUR: 'it returns false'. Refute it at one input. -/
def modqInverseWrong : ChangeSpec := { name := "modqInverse", fn := fun _ => fun
  | [d1, d2, d3] => { results := [.lit (.bool false)], args := [d1, d2, d3] }
  | _ => none }
def ModqInverseWrongFalsely : Prop := modqInverseRow.holds Try.pinned (OpenSpec.ofChange modqInverseWrong)

/-- 'sortitionlaw03.ModqValues': WHATEVER THE INPUT: true; the input reads as it did. -/
def modqValuesSpec : ChangeSpec := { name := "modqValues", fn := fun _ => fun
  | [d1, d2, d3] => { results := [.lit (.bool true)], args := [d1, d2, d3] }
  | _ => none }
def modqValuesRow : OpenClaim := { program := "ytmaejpooanenpaa", sum := "061713ed72f2aa44ae961b0837ef8df38a34a258e69180f61502d668b7c674bb", func := "sortition/sortitionlaw03.ModqValues", spec := "modqValues", inPlace := ["math/bits.Add64", "math/bits.Sub64", "sync/atomic.LoadUint32", "(*internal/sync.Mutex).Lock", "internal/race.Disable", "sync/atomic.CompareAndSwapInt32", "internal/race.Enable", "internal/race.Acquire", "(*internal/sync.Mutex).lockSlow", "internal/sync.runtime_canSpin", "internal/sync.runtime_doSpin", "internal/sync.throw", "internal/sync.runtime_nanotime", "internal/sync.runtime_SemacquireMutex", "sync/atomic.AddInt32", "(*internal/sync.Mutex).Unlock", "internal/race.ReleaseMerge", "(*internal/sync.Mutex).unlockSlow", "internal/sync.fatal", "internal/sync.runtime_Semrelease", "sync/atomic.StoreUint32"], unfollowed := true, recurses := true, apart := false }
def ModqValuesSaid : Prop := modqValuesRow.holds Try.pinned (OpenSpec.ofChange modqValuesSpec)

/-- ITS FALSE NEIGHBOUR: 'it returns false'. Refute it at one input. -/
def modqValuesWrong : ChangeSpec := { name := "modqValues", fn := fun _ => fun
  | [d1, d2, d3] => { results := [.lit (.bool false)], args := [d1, d2, d3] }
  | _ => none }
def ModqValuesWrongFalsely : Prop := modqValuesRow.holds Try.pinned (OpenSpec.ofChange modqValuesWrong)

/-- 'sortitionlaw03.ModqWeights': WHATEVER THE INPUT: true; the input reads as it did. -/
def modqWeightsSpec : ChangeSpec := { name := "modqWeights", fn := fun _ => fun
  | [d1, d2] => { results := [.lit (.bool true)], args := [d1, d2] }
  | _ => none }
def modqWeightsRow : OpenClaim := { program := "ytmaejpooanenpaa", sum := "061713ed72f2aa44ae961b0837ef8df38a34a258e69180f61502d668b7c674bb", func := "sortition/sortitionlaw03.ModqWeights", spec := "modqWeights", inPlace := ["math/bits.Add64", "math/bits.Sub64", "sync/atomic.LoadUint32", "(*internal/sync.Mutex).Lock", "internal/race.Disable", "sync/atomic.CompareAndSwapInt32", "internal/race.Enable", "internal/race.Acquire", "(*internal/sync.Mutex).lockSlow", "internal/sync.runtime_canSpin", "internal/sync.runtime_doSpin", "internal/sync.throw", "internal/sync.runtime_nanotime", "internal/sync.runtime_SemacquireMutex", "sync/atomic.AddInt32", "(*internal/sync.Mutex).Unlock", "internal/race.ReleaseMerge", "(*internal/sync.Mutex).unlockSlow", "internal/sync.fatal", "internal/sync.runtime_Semrelease", "sync/atomic.StoreUint32"], unfollowed := true, recurses := true, apart := false }
def ModqWeightsSaid : Prop := modqWeightsRow.holds Try.pinned (OpenSpec.ofChange modqWeightsSpec)

/-- ITS FALSE NEIGHBOUR: 'it returns false'. Refute it at one input. -/
def modqWeightsWrong : ChangeSpec := { name := "modqWeights", fn := fun _ => fun
  | [d1, d2] => { results := [.lit (.bool false)], args := [d1, d2] }
  | _ => none }
def ModqWeightsWrongFalsely : Prop := modqWeightsRow.holds Try.pinned (OpenSpec.ofChange modqWeightsWrong)

/-- 'sortitionlaw03.ModqOne': WHATEVER THE INPUT: true; the input reads as it did. -/
def modqOneSpec : ChangeSpec := { name := "modqOne", fn := fun _ => fun
  | [d1, d2] => { results := [.lit (.bool true)], args := [d1, d2] }
  | _ => none }
def modqOneRow : OpenClaim := { program := "ytmaejpooanenpaa", sum := "061713ed72f2aa44ae961b0837ef8df38a34a258e69180f61502d668b7c674bb", func := "sortition/sortitionlaw03.ModqOne", spec := "modqOne", inPlace := ["math/bits.Add64", "math/bits.Sub64", "sync/atomic.LoadUint32", "(*internal/sync.Mutex).Lock", "internal/race.Disable", "sync/atomic.CompareAndSwapInt32", "internal/race.Enable", "internal/race.Acquire", "(*internal/sync.Mutex).lockSlow", "internal/sync.runtime_canSpin", "internal/sync.runtime_doSpin", "internal/sync.throw", "internal/sync.runtime_nanotime", "internal/sync.runtime_SemacquireMutex", "sync/atomic.AddInt32", "(*internal/sync.Mutex).Unlock", "internal/race.ReleaseMerge", "(*internal/sync.Mutex).unlockSlow", "internal/sync.fatal", "internal/sync.runtime_Semrelease", "sync/atomic.StoreUint32"], unfollowed := true, recurses := true, apart := false }
def ModqOneSaid : Prop := modqOneRow.holds Try.pinned (OpenSpec.ofChange modqOneSpec)

/-- ITS FALSE NEIGHBOUR: 'it returns false'. Refute it at one input. -/
def modqOneWrong : ChangeSpec := { name := "modqOne", fn := fun _ => fun
  | [d1, d2] => { results := [.lit (.bool false)], args := [d1, d2] }
  | _ => none }
def ModqOneWrongFalsely : Prop := modqOneRow.holds Try.pinned (OpenSpec.ofChange modqOneWrong)

/-- 'sortitionlaw03.ModqTells': WHATEVER THE INPUT: true; the input reads as it did. -/
def modqTellsSpec : ChangeSpec := { name := "modqTells", fn := fun _ => fun
  | [d1, d2, d3] => { results := [.lit (.bool true)], args := [d1, d2, d3] }
  | _ => none }
def modqTellsRow : OpenClaim := { program := "ytmaejpooanenpaa", sum := "061713ed72f2aa44ae961b0837ef8df38a34a258e69180f61502d668b7c674bb", func := "sortition/sortitionlaw03.ModqTells", spec := "modqTells", inPlace := ["math/bits.Add64", "math/bits.Sub64", "sync/atomic.LoadUint32", "(*internal/sync.Mutex).Lock", "internal/race.Disable", "sync/atomic.CompareAndSwapInt32", "internal/race.Enable", "internal/race.Acquire", "(*internal/sync.Mutex).lockSlow", "internal/sync.runtime_canSpin", "internal/sync.runtime_doSpin", "internal/sync.throw", "internal/sync.runtime_nanotime", "internal/sync.runtime_SemacquireMutex", "sync/atomic.AddInt32", "(*internal/sync.Mutex).Unlock", "internal/race.ReleaseMerge", "(*internal/sync.Mutex).unlockSlow", "internal/sync.fatal", "internal/sync.runtime_Semrelease", "sync/atomic.StoreUint32"], unfollowed := true, recurses := true, apart := false }
def ModqTellsSaid : Prop := modqTellsRow.holds Try.pinned (OpenSpec.ofChange modqTellsSpec)

/-- ITS FALSE NEIGHBOUR: 'it returns false'. Refute it at one input. -/
def modqTellsWrong : ChangeSpec := { name := "modqTells", fn := fun _ => fun
  | [d1, d2, d3] => { results := [.lit (.bool false)], args := [d1, d2, d3] }
  | _ => none }
def ModqTellsWrongFalsely : Prop := modqTellsRow.holds Try.pinned (OpenSpec.ofChange modqTellsWrong)

/-- 'sortitionlaw03.ModqSums': WHATEVER THE INPUT: true; the input reads as it did. -/
def modqSumsSpec : ChangeSpec := { name := "modqSums", fn := fun _ => fun
  | [d1, d2, d3, d4, d5] => { results := [.lit (.bool true)], args := [d1, d2, d3, d4, d5] }
  | _ => none }
def modqSumsRow : OpenClaim := { program := "ytmaejpooanenpaa", sum := "061713ed72f2aa44ae961b0837ef8df38a34a258e69180f61502d668b7c674bb", func := "sortition/sortitionlaw03.ModqSums", spec := "modqSums", inPlace := ["math/bits.Add64", "math/bits.Sub64", "sync/atomic.LoadUint32", "(*internal/sync.Mutex).Lock", "internal/race.Disable", "sync/atomic.CompareAndSwapInt32", "internal/race.Enable", "internal/race.Acquire", "(*internal/sync.Mutex).lockSlow", "internal/sync.runtime_canSpin", "internal/sync.runtime_doSpin", "internal/sync.throw", "internal/sync.runtime_nanotime", "internal/sync.runtime_SemacquireMutex", "sync/atomic.AddInt32", "(*internal/sync.Mutex).Unlock", "internal/race.ReleaseMerge", "(*internal/sync.Mutex).unlockSlow", "internal/sync.fatal", "internal/sync.runtime_Semrelease", "sync/atomic.StoreUint32"], unfollowed := true, recurses := true, apart := false }
def ModqSumsSaid : Prop := modqSumsRow.holds Try.pinned (OpenSpec.ofChange modqSumsSpec)

/-- ITS FALSE NEIGHBOUR: 'it returns false'. Refute it at one input. -/
def modqSumsWrong : ChangeSpec := { name := "modqSums", fn := fun _ => fun
  | [d1, d2, d3, d4, d5] => { results := [.lit (.bool false)], args := [d1, d2, d3, d4, d5] }
  | _ => none }
def ModqSumsWrongFalsely : Prop := modqSumsRow.holds Try.pinned (OpenSpec.ofChange modqSumsWrong)

/-- 'sortitionlaw03.ModqOnes': WHATEVER THE INPUT: true; the input reads as it did. -/
def modqOnesSpec : ChangeSpec := { name := "modqOnes", fn := fun _ => fun
  | [d1, d2] => { results := [.lit (.bool true)], args := [d1, d2] }
  | _ => none }
def modqOnesRow : OpenClaim := { program := "ytmaejpooanenpaa", sum := "061713ed72f2aa44ae961b0837ef8df38a34a258e69180f61502d668b7c674bb", func := "sortition/sortitionlaw03.ModqOnes", spec := "modqOnes", inPlace := ["math/bits.Add64", "math/bits.Sub64", "sync/atomic.LoadUint32", "(*internal/sync.Mutex).Lock", "internal/race.Disable", "sync/atomic.CompareAndSwapInt32", "internal/race.Enable", "internal/race.Acquire", "(*internal/sync.Mutex).lockSlow", "internal/sync.runtime_canSpin", "internal/sync.runtime_doSpin", "internal/sync.throw", "internal/sync.runtime_nanotime", "internal/sync.runtime_SemacquireMutex", "sync/atomic.AddInt32", "(*internal/sync.Mutex).Unlock", "internal/race.ReleaseMerge", "(*internal/sync.Mutex).unlockSlow", "internal/sync.fatal", "internal/sync.runtime_Semrelease", "sync/atomic.StoreUint32"], unfollowed := true, recurses := true, apart := false }
def ModqOnesSaid : Prop := modqOnesRow.holds Try.pinned (OpenSpec.ofChange modqOnesSpec)

/-- ITS FALSE NEIGHBOUR: 'it returns false'. Refute it at one input. -/
def modqOnesWrong : ChangeSpec := { name := "modqOnes", fn := fun _ => fun
  | [d1, d2] => { results := [.lit (.bool false)], args := [d1, d2] }
  | _ => none }
def ModqOnesWrongFalsely : Prop := modqOnesRow.holds Try.pinned (OpenSpec.ofChange modqOnesWrong)

/-- 'sortitionlaw03.ModqTurned': WHATEVER THE INPUT: true; the input reads as it did. -/
def modqTurnedSpec : ChangeSpec := { name := "modqTurned", fn := fun _ => fun
  | [d1, d2] => { results := [.lit (.bool true)], args := [d1, d2] }
  | _ => none }
def modqTurnedRow : OpenClaim := { program := "ytmaejpooanenpaa", sum := "061713ed72f2aa44ae961b0837ef8df38a34a258e69180f61502d668b7c674bb", func := "sortition/sortitionlaw03.ModqTurned", spec := "modqTurned", inPlace := ["math/bits.Add64", "math/bits.Sub64", "sync/atomic.LoadUint32", "(*internal/sync.Mutex).Lock", "internal/race.Disable", "sync/atomic.CompareAndSwapInt32", "internal/race.Enable", "internal/race.Acquire", "(*internal/sync.Mutex).lockSlow", "internal/sync.runtime_canSpin", "internal/sync.runtime_doSpin", "internal/sync.throw", "internal/sync.runtime_nanotime", "internal/sync.runtime_SemacquireMutex", "sync/atomic.AddInt32", "(*internal/sync.Mutex).Unlock", "internal/race.ReleaseMerge", "(*internal/sync.Mutex).unlockSlow", "internal/sync.fatal", "internal/sync.runtime_Semrelease", "sync/atomic.StoreUint32"], unfollowed := true, recurses := true, apart := false }
def ModqTurnedSaid : Prop := modqTurnedRow.holds Try.pinned (OpenSpec.ofChange modqTurnedSpec)

/-- ITS FALSE NEIGHBOUR: 'it returns false'. Refute it at one input. -/
def modqTurnedWrong : ChangeSpec := { name := "modqTurned", fn := fun _ => fun
  | [d1, d2] => { results := [.lit (.bool false)], args := [d1, d2] }
  | _ => none }
def ModqTurnedWrongFalsely : Prop := modqTurnedRow.holds Try.pinned (OpenSpec.ofChange modqTurnedWrong)

/-- 'sortitionlaw03.ModqFirst': WHATEVER THE INPUT: true; the input reads as it did. -/
def modqFirstSpec : ChangeSpec := { name := "modqFirst", fn := fun _ => fun
  | [d1, d2, d3] => { results := [.lit (.bool true)], args := [d1, d2, d3] }
  | _ => none }
def modqFirstRow : OpenClaim := { program := "ytmaejpooanenpaa", sum := "061713ed72f2aa44ae961b0837ef8df38a34a258e69180f61502d668b7c674bb", func := "sortition/sortitionlaw03.ModqFirst", spec := "modqFirst", inPlace := ["math/bits.Add64", "math/bits.Sub64", "sync/atomic.LoadUint32", "(*internal/sync.Mutex).Lock", "internal/race.Disable", "sync/atomic.CompareAndSwapInt32", "internal/race.Enable", "internal/race.Acquire", "(*internal/sync.Mutex).lockSlow", "internal/sync.runtime_canSpin", "internal/sync.runtime_doSpin", "internal/sync.throw", "internal/sync.runtime_nanotime", "internal/sync.runtime_SemacquireMutex", "sync/atomic.AddInt32", "(*internal/sync.Mutex).Unlock", "internal/race.ReleaseMerge", "(*internal/sync.Mutex).unlockSlow", "internal/sync.fatal", "internal/sync.runtime_Semrelease", "sync/atomic.StoreUint32"], unfollowed := true, recurses := true, apart := false }
def ModqFirstSaid : Prop := modqFirstRow.holds Try.pinned (OpenSpec.ofChange modqFirstSpec)

/-- ITS FALSE NEIGHBOUR: 'it returns false'. Refute it at one input. -/
def modqFirstWrong : ChangeSpec := { name := "modqFirst", fn := fun _ => fun
  | [d1, d2, d3] => { results := [.lit (.bool false)], args := [d1, d2, d3] }
  | _ => none }
def ModqFirstWrongFalsely : Prop := modqFirstRow.holds Try.pinned (OpenSpec.ofChange modqFirstWrong)

/- THE SECOND FORM. 'bulk': how many values and letters a reading holds, each counted each time it is reached (what is shared counts as often as it is met; a slice's spare places count too). A statement '..UptoSaid' is the law's where the arguments, and the package variables that the reading takes, are together of bulk at most 1048576: NARROWER than '..Said'. Prove '..Said' where nothing that the law and all that it calls make is longer than what came in: it says more and counts as full. Else prove '..UptoSaid'. A law counts once. -/
mutual
def uptoBulk {H : Type} : DataW H → Nat
  | .lit (.string bytes) => bytes.length + 1
  | .lit _ => 1
  | .nil => 1
  | .ptr d => uptoBulk d + 1
  | .slice elems spare => uptoBulkAll elems + uptoBulkAll spare + 1
  | .agg parts => uptoBulkAll parts + 1
  | .iface _ d => uptoBulk d + 1
  | .map entries => uptoBulkEntries entries + 1
  | .held _ => 1
def uptoBulkAll {H : Type} : List (DataW H) → Nat
  | [] => 0
  | d :: r => uptoBulk d + uptoBulkAll r
def uptoBulkEntries {H : Type} : List (Lit × DataW H) → Nat
  | [] => 0
  | x :: r => uptoBulkEntry x + uptoBulkEntries r
def uptoBulkEntry {H : Type} : Lit × DataW H → Nat
  | (.string bytes, d) => bytes.length + uptoBulk d + 1
  | (_, d) => uptoBulk d + 1
 end
def uptoSmall : (H : Type) → List (DataW H) → Bool := fun _ ds => decide (uptoBulkAll ds ≤ 1048576)
def OpenSpec.upto (s : _root_.Go.ChangeSpec) : _root_.Go.OpenSpec := { _root_.Go.OpenSpec.ofChange s with cond := some uptoSmall }

/-- 'sortitionlaw03.ModqInverse', WHERE WHAT IT READS IS OF BULK AT MOST 1048576: true; the input reads as it did. -/
def modqInverseUptoRow : OpenClaim := { program := "ytmaejpooanenpaa", sum := "061713ed72f2aa44ae961b0837ef8df38a34a258e69180f61502d668b7c674bb", func := "sortition/sortitionlaw03.ModqInverse", spec := "modqInverse", inPlace := ["math/bits.Add64", "math/bits.Sub64", "sync/atomic.LoadUint32", "(*internal/sync.Mutex).Lock", "internal/race.Disable", "sync/atomic.CompareAndSwapInt32", "internal/race.Enable", "internal/race.Acquire", "(*internal/sync.Mutex).lockSlow", "internal/sync.runtime_canSpin", "internal/sync.runtime_doSpin", "internal/sync.throw", "internal/sync.runtime_nanotime", "internal/sync.runtime_SemacquireMutex", "sync/atomic.AddInt32", "(*internal/sync.Mutex).Unlock", "internal/race.ReleaseMerge", "(*internal/sync.Mutex).unlockSlow", "internal/sync.fatal", "internal/sync.runtime_Semrelease", "sync/atomic.StoreUint32"], unfollowed := true, recurses := true, apart := false, narrowed := true }
def ModqInverseUptoSaid : Prop := modqInverseUptoRow.holds Try.pinned (OpenSpec.upto modqInverseSpec)

/-- 'sortitionlaw03.ModqValues', WHERE WHAT IT READS IS OF BULK AT MOST 1048576: true; the input reads as it did. -/
def modqValuesUptoRow : OpenClaim := { program := "ytmaejpooanenpaa", sum := "061713ed72f2aa44ae961b0837ef8df38a34a258e69180f61502d668b7c674bb", func := "sortition/sortitionlaw03.ModqValues", spec := "modqValues", inPlace := ["math/bits.Add64", "math/bits.Sub64", "sync/atomic.LoadUint32", "(*internal/sync.Mutex).Lock", "internal/race.Disable", "sync/atomic.CompareAndSwapInt32", "internal/race.Enable", "internal/race.Acquire", "(*internal/sync.Mutex).lockSlow", "internal/sync.runtime_canSpin", "internal/sync.runtime_doSpin", "internal/sync.throw", "internal/sync.runtime_nanotime", "internal/sync.runtime_SemacquireMutex", "sync/atomic.AddInt32", "(*internal/sync.Mutex).Unlock", "internal/race.ReleaseMerge", "(*internal/sync.Mutex).unlockSlow", "internal/sync.fatal", "internal/sync.runtime_Semrelease", "sync/atomic.StoreUint32"], unfollowed := true, recurses := true, apart := false, narrowed := true }
def ModqValuesUptoSaid : Prop := modqValuesUptoRow.holds Try.pinned (OpenSpec.upto modqValuesSpec)

/-- 'sortitionlaw03.ModqWeights', WHERE WHAT IT READS IS OF BULK AT MOST 1048576: true; the input reads as it did. -/
def modqWeightsUptoRow : OpenClaim := { program := "ytmaejpooanenpaa", sum := "061713ed72f2aa44ae961b0837ef8df38a34a258e69180f61502d668b7c674bb", func := "sortition/sortitionlaw03.ModqWeights", spec := "modqWeights", inPlace := ["math/bits.Add64", "math/bits.Sub64", "sync/atomic.LoadUint32", "(*internal/sync.Mutex).Lock", "internal/race.Disable", "sync/atomic.CompareAndSwapInt32", "internal/race.Enable", "internal/race.Acquire", "(*internal/sync.Mutex).lockSlow", "internal/sync.runtime_canSpin", "internal/sync.runtime_doSpin", "internal/sync.throw", "internal/sync.runtime_nanotime", "internal/sync.runtime_SemacquireMutex", "sync/atomic.AddInt32", "(*internal/sync.Mutex).Unlock", "internal/race.ReleaseMerge", "(*internal/sync.Mutex).unlockSlow", "internal/sync.fatal", "internal/sync.runtime_Semrelease", "sync/atomic.StoreUint32"], unfollowed := true, recurses := true, apart := false, narrowed := true }
def ModqWeightsUptoSaid : Prop := modqWeightsUptoRow.holds Try.pinned (OpenSpec.upto modqWeightsSpec)

/-- 'sortitionlaw03.ModqOne', WHERE WHAT IT READS IS OF BULK AT MOST 1048576: true; the input reads as it did. -/
def modqOneUptoRow : OpenClaim := { program := "ytmaejpooanenpaa", sum := "061713ed72f2aa44ae961b0837ef8df38a34a258e69180f61502d668b7c674bb", func := "sortition/sortitionlaw03.ModqOne", spec := "modqOne", inPlace := ["math/bits.Add64", "math/bits.Sub64", "sync/atomic.LoadUint32", "(*internal/sync.Mutex).Lock", "internal/race.Disable", "sync/atomic.CompareAndSwapInt32", "internal/race.Enable", "internal/race.Acquire", "(*internal/sync.Mutex).lockSlow", "internal/sync.runtime_canSpin", "internal/sync.runtime_doSpin", "internal/sync.throw", "internal/sync.runtime_nanotime", "internal/sync.runtime_SemacquireMutex", "sync/atomic.AddInt32", "(*internal/sync.Mutex).Unlock", "internal/race.ReleaseMerge", "(*internal/sync.Mutex).unlockSlow", "internal/sync.fatal", "internal/sync.runtime_Semrelease", "sync/atomic.StoreUint32"], unfollowed := true, recurses := true, apart := false, narrowed := true }
def ModqOneUptoSaid : Prop := modqOneUptoRow.holds Try.pinned (OpenSpec.upto modqOneSpec)

/-- 'sortitionlaw03.ModqTells', WHERE WHAT IT READS IS OF BULK AT MOST 1048576: true; the input reads as it did. -/
def modqTellsUptoRow : OpenClaim := { program := "ytmaejpooanenpaa", sum := "061713ed72f2aa44ae961b0837ef8df38a34a258e69180f61502d668b7c674bb", func := "sortition/sortitionlaw03.ModqTells", spec := "modqTells", inPlace := ["math/bits.Add64", "math/bits.Sub64", "sync/atomic.LoadUint32", "(*internal/sync.Mutex).Lock", "internal/race.Disable", "sync/atomic.CompareAndSwapInt32", "internal/race.Enable", "internal/race.Acquire", "(*internal/sync.Mutex).lockSlow", "internal/sync.runtime_canSpin", "internal/sync.runtime_doSpin", "internal/sync.throw", "internal/sync.runtime_nanotime", "internal/sync.runtime_SemacquireMutex", "sync/atomic.AddInt32", "(*internal/sync.Mutex).Unlock", "internal/race.ReleaseMerge", "(*internal/sync.Mutex).unlockSlow", "internal/sync.fatal", "internal/sync.runtime_Semrelease", "sync/atomic.StoreUint32"], unfollowed := true, recurses := true, apart := false, narrowed := true }
def ModqTellsUptoSaid : Prop := modqTellsUptoRow.holds Try.pinned (OpenSpec.upto modqTellsSpec)

/-- 'sortitionlaw03.ModqSums', WHERE WHAT IT READS IS OF BULK AT MOST 1048576: true; the input reads as it did. -/
def modqSumsUptoRow : OpenClaim := { program := "ytmaejpooanenpaa", sum := "061713ed72f2aa44ae961b0837ef8df38a34a258e69180f61502d668b7c674bb", func := "sortition/sortitionlaw03.ModqSums", spec := "modqSums", inPlace := ["math/bits.Add64", "math/bits.Sub64", "sync/atomic.LoadUint32", "(*internal/sync.Mutex).Lock", "internal/race.Disable", "sync/atomic.CompareAndSwapInt32", "internal/race.Enable", "internal/race.Acquire", "(*internal/sync.Mutex).lockSlow", "internal/sync.runtime_canSpin", "internal/sync.runtime_doSpin", "internal/sync.throw", "internal/sync.runtime_nanotime", "internal/sync.runtime_SemacquireMutex", "sync/atomic.AddInt32", "(*internal/sync.Mutex).Unlock", "internal/race.ReleaseMerge", "(*internal/sync.Mutex).unlockSlow", "internal/sync.fatal", "internal/sync.runtime_Semrelease", "sync/atomic.StoreUint32"], unfollowed := true, recurses := true, apart := false, narrowed := true }
def ModqSumsUptoSaid : Prop := modqSumsUptoRow.holds Try.pinned (OpenSpec.upto modqSumsSpec)

/-- 'sortitionlaw03.ModqOnes', WHERE WHAT IT READS IS OF BULK AT MOST 1048576: true; the input reads as it did. -/
def modqOnesUptoRow : OpenClaim := { program := "ytmaejpooanenpaa", sum := "061713ed72f2aa44ae961b0837ef8df38a34a258e69180f61502d668b7c674bb", func := "sortition/sortitionlaw03.ModqOnes", spec := "modqOnes", inPlace := ["math/bits.Add64", "math/bits.Sub64", "sync/atomic.LoadUint32", "(*internal/sync.Mutex).Lock", "internal/race.Disable", "sync/atomic.CompareAndSwapInt32", "internal/race.Enable", "internal/race.Acquire", "(*internal/sync.Mutex).lockSlow", "internal/sync.runtime_canSpin", "internal/sync.runtime_doSpin", "internal/sync.throw", "internal/sync.runtime_nanotime", "internal/sync.runtime_SemacquireMutex", "sync/atomic.AddInt32", "(*internal/sync.Mutex).Unlock", "internal/race.ReleaseMerge", "(*internal/sync.Mutex).unlockSlow", "internal/sync.fatal", "internal/sync.runtime_Semrelease", "sync/atomic.StoreUint32"], unfollowed := true, recurses := true, apart := false, narrowed := true }
def ModqOnesUptoSaid : Prop := modqOnesUptoRow.holds Try.pinned (OpenSpec.upto modqOnesSpec)

/-- 'sortitionlaw03.ModqTurned', WHERE WHAT IT READS IS OF BULK AT MOST 1048576: true; the input reads as it did. -/
def modqTurnedUptoRow : OpenClaim := { program := "ytmaejpooanenpaa", sum := "061713ed72f2aa44ae961b0837ef8df38a34a258e69180f61502d668b7c674bb", func := "sortition/sortitionlaw03.ModqTurned", spec := "modqTurned", inPlace := ["math/bits.Add64", "math/bits.Sub64", "sync/atomic.LoadUint32", "(*internal/sync.Mutex).Lock", "internal/race.Disable", "sync/atomic.CompareAndSwapInt32", "internal/race.Enable", "internal/race.Acquire", "(*internal/sync.Mutex).lockSlow", "internal/sync.runtime_canSpin", "internal/sync.runtime_doSpin", "internal/sync.throw", "internal/sync.runtime_nanotime", "internal/sync.runtime_SemacquireMutex", "sync/atomic.AddInt32", "(*internal/sync.Mutex).Unlock", "internal/race.ReleaseMerge", "(*internal/sync.Mutex).unlockSlow", "internal/sync.fatal", "internal/sync.runtime_Semrelease", "sync/atomic.StoreUint32"], unfollowed := true, recurses := true, apart := false, narrowed := true }
def ModqTurnedUptoSaid : Prop := modqTurnedUptoRow.holds Try.pinned (OpenSpec.upto modqTurnedSpec)

/-- 'sortitionlaw03.ModqFirst', WHERE WHAT IT READS IS OF BULK AT MOST 1048576: true; the input reads as it did. -/
def modqFirstUptoRow : OpenClaim := { program := "ytmaejpooanenpaa", sum := "061713ed72f2aa44ae961b0837ef8df38a34a258e69180f61502d668b7c674bb", func := "sortition/sortitionlaw03.ModqFirst", spec := "modqFirst", inPlace := ["math/bits.Add64", "math/bits.Sub64", "sync/atomic.LoadUint32", "(*internal/sync.Mutex).Lock", "internal/race.Disable", "sync/atomic.CompareAndSwapInt32", "internal/race.Enable", "internal/race.Acquire", "(*internal/sync.Mutex).lockSlow", "internal/sync.runtime_canSpin", "internal/sync.runtime_doSpin", "internal/sync.throw", "internal/sync.runtime_nanotime", "internal/sync.runtime_SemacquireMutex", "sync/atomic.AddInt32", "(*internal/sync.Mutex).Unlock", "internal/race.ReleaseMerge", "(*internal/sync.Mutex).unlockSlow", "internal/sync.fatal", "internal/sync.runtime_Semrelease", "sync/atomic.StoreUint32"], unfollowed := true, recurses := true, apart := false, narrowed := true }
def ModqFirstUptoSaid : Prop := modqFirstUptoRow.holds Try.pinned (OpenSpec.upto modqFirstSpec)

end Rows
end Go.Proofs.Ytmaejpooanenpaa
