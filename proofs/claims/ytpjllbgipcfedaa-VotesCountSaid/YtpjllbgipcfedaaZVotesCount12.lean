/-
  Many in one: Maps2, Maps3, Votes, Votes2, VotRec, Votes3, Votes4, Votes5, Votes6, Votes7, Votes8, Votes9.
-/
import Derived.Test.YtpjllbgipcfedaaZVotesCount11
import Derived.ChangeSame
import Derived.Maps.RangeRun
section
namespace Go.Eng
open Go.WideShapes Go.ChangeShapes Go.ChangeAt
set_option linter.unusedSimpArgs false
set_option linter.unusedVariables false
section
variable {α β : Type} {P : Program} {mt kt et : TypeId} {kv : α → Value} {ev : β → Value} {z : β} {eqb : α → α → Bool}
theorem findNow_eq {kd : TypeDesc} (hs : ∀ k h, Instr.sameNow kd (kv k) (kv h) = some (eqb k h)) (k : α) : ∀ (l : List (α × β)) (n i : Nat), Instr.findNow kd (kv k) (entsL kv ev l n) i = some ((findI eqb k l i).map fun p => (p.1, ev p.2))
  | [], _, _ => rfl
  | (h, x) :: r, n, i => by
    simp only [entsL, Instr.findNow, hs, findI]
    cases e : eqb k h with
    | true => simp
    | false => simpa using findNow_eq hs k r (n + 1) (i + 1)
theorem mapT_now {kd : TypeDesc} (hm : P.underlying mt = some (.map kt et)) (hk : P.underlying kt = some kd) (hs : ∀ k h, Instr.sameNow kd (kv k) (kv h) = some (eqb k h))
    (chk : ∀ em k w, (Instr.checkKey em 10000 kt (kv k)).run P w = .ok () w) (eqr : ∀ k h w, (Op.equal kt (kv k) (kv h)).run P w = .ok (eqb k h) w) (eqv : ∀ k h, eqb k h = true → Instr.sameBits 10000 (kv h) (kv k) = true) (zer : ∀ w, (zeroValue et).run P w = .ok (ev z) w) :
    MapT P mt kt et kv ev z eqb := ⟨hm, chk, fun k l n w => MapKept.run_findKey hk (findNow_eq hs k l n 0), eqr, eqv, zer⟩
end
section
variable {P : Program} {mt kt et : TypeId} {β : Type} {ev : β → Value} {z : β}
theorem int_keys (hm : P.underlying mt = some (.map kt et)) (hk : P.underlying kt = some (.int .i64)) (hz : ∀ w, (zeroValue et).run P w = .ok (ev z) w) : MapT P mt kt et int ev z (fun a b : Int => a == b) :=
  mapT_now hm hk (fun _ _ => rfl) (fun em k w => by unfold Instr.checkKey; simp [run_underlying hk, int]) (fun k h w => by
    have : pureRun P (Op.equal kt (int k) (int h)) = some (k == h) := by
      show pureRun P (Op.equalIn (9999 + 1) kt (.int .i64 k) (.int .i64 h)) = _
      unfold Op.equalIn; rw [pureRun_bind', pureRun_underlying hk]; rfl
    exact pureRun_run this w) (fun k h e => by rw [eq_of_beq e]; simp [Instr.sameBits, int]) hz
theorem bool_keys (hm : P.underlying mt = some (.map kt et)) (hk : P.underlying kt = some .bool) (hz : ∀ w, (zeroValue et).run P w = .ok (ev z) w) : MapT P mt kt et Value.bool ev z (fun a b : Bool => a == b) :=
  mapT_now hm hk (fun _ _ => rfl) (fun em k w => by unfold Instr.checkKey; simp [run_underlying hk]) (fun k h w => by
    have : pureRun P (Op.equal kt (.bool k) (.bool h)) = some (k == h) := by
      show pureRun P (Op.equalIn (9999 + 1) kt (.bool k) (.bool h)) = _
      unfold Op.equalIn; rw [pureRun_bind', pureRun_underlying hk]; rfl
    exact pureRun_run this w) (fun k h e => by rw [eq_of_beq e]; simp [Instr.sameBits]) hz
theorem unit_keys (hm : P.underlying mt = some (.map kt et)) (hk : P.underlying kt = some (.struct #[])) (hst : P.stoodInHeld kt = false) (hz : ∀ w, (zeroValue et).run P w = .ok (ev z) w) : MapT P mt kt et ev0 ev z (fun _ _ : Unit => true) :=
  have eqr : ∀ (k h : Unit) w, (Op.equal kt (ev0 k) (ev0 h)).run P w = .ok true w := fun k h w => by
    show (Op.equalIn (9999 + 1) kt (.agg #[]) (.agg #[])).run P w = _
    unfold Op.equalIn; simp [run_underlying hk, hst]
  ⟨hm, fun em k w => by unfold Instr.checkKey; simp [run_underlying hk, ev0], fun k l n w => (run_findKey_eq w (by rw [hk]) _ _).trans (run_asking eqr k w l n 0), eqr, fun k h e => by simp [Instr.sameBits, ev0], hz⟩
end
def sR (f g : Nat → UInt8) : Bool := (List.range 32).all fun i => f i == g i
def rowV (f : Nat → UInt8) : Value := vecV 32 fun k => u8 (f k)
theorem sR_iff {f g : Nat → UInt8} : sR f g = true ↔ ∀ i, i < 32 → f i = g i := by
  simp [sR, List.all_eq_true]
theorem sR_refl (f : Nat → UInt8) : sR f f = true := sR_iff.2 fun _ _ => rfl
theorem sR_symm {f g : Nat → UInt8} (h : sR f g = true) : sR g f = true := sR_iff.2 fun i hi => (sR_iff.1 h i hi).symm
theorem sR_trans {f g h : Nat → UInt8} (a : sR f g = true) (b : sR g h = true) : sR f h = true := sR_iff.2 fun i hi => (sR_iff.1 a i hi).trans (sR_iff.1 b i hi)
theorem sR_comm (f g : Nat → UInt8) : sR f g = sR g f := Bool.eq_iff_iff.2 ⟨sR_symm, sR_symm⟩
theorem rowV_eq {f g : Nat → UInt8} (h : sR f g = true) : rowV f = rowV g := by
  unfold rowV vecV
  congr 1
  rw [show (List.range 32).map (fun k => u8 (f k)) = (List.range 32).map (fun k => u8 (g k)) from List.map_congr_left fun k hk => by rw [sR_iff.1 h k (List.mem_range.1 hk)]]
theorem forIn_ok {P : Program} {α : Type} {f : α → PUnit → Sem (ForInStep PUnit)} (w : World) : ∀ (l : List α), (∀ x ∈ l, (f x ⟨⟩).run P w = .ok (.yield ⟨⟩) w) → (forIn l PUnit.unit f).run P w = .ok PUnit.unit w
  | [], _ => rfl
  | x :: l, h => by
    rw [List.forIn_cons]
    simp only [Sem.run_bind, h x (.head _), Result.andThen_ok]
    exact forIn_ok w l fun y hy => h y (.tail _ hy)
theorem chk_row {P : Program} {t e : TypeId} (ht : P.underlying t = some (.array 32 e)) (he : P.underlying e = some (.int .u8)) (hs : sizeB P e = some 1) (em : Bool) (x : Nat → UInt8) (w : World) : (Instr.checkKey em 10000 t (rowV x)).run P w = .ok () w := by
  have hsz : (sizeOf e).run P w = .ok 1 w := pureRun_run (pureRun_sizeOf hs) w
  have hc : ∀ k a, (Instr.checkKey em 9999 e (.int k a)).run P w = .ok () w := fun k a => by
    unfold Instr.checkKey; simp [run_underlying he]
  have hp : ∀ i, i < 32 → (part e ((List.range 32).map fun k => u8 (x k)).toArray i).run P w = .ok (u8 (x i)) w := fun i hi => run_part_int w he (by simp [hi])
  unfold Instr.checkKey
  simp only [Sem.run_bind, run_underlying ht, Result.andThen_ok, rowV, vecV, Std.Legacy.Range.forIn_eq_forIn_range', Std.Legacy.Range.size]
  rw [forIn_ok w _ fun i hi => ?_]
  · rfl
  have hi' : i < 32 := by
    simpa using hi
  simp only [Sem.run_bind, hsz, Result.andThen_ok, Nat.mul_one, hp i hi']
  unfold u8
  simp only [hc, Result.andThen_ok]
  rfl
theorem equal_row {P : Program} {t e : TypeId} (ht : P.underlying t = some (.array 32 e)) (he : P.underlying e = some (.int .u8)) (hs : sizeB P e = some 1) (f g : Nat → UInt8) :
    pureRun P (Op.equal t (rowV f) (rowV g)) = some (sR f g) := by
  have h := pureRun_equalIn_arr (P := P) 9998 ((List.range 32).map fun k => ((f k).toNat : Int)) ((List.range 32).map fun k => ((g k).toNat : Int)) ht he hs (by simp) (by simp)
  have e1 : ∀ q : Nat → UInt8, (((List.range 32).map fun k => ((q k).toNat : Int)).map (Value.int .u8)).toArray = ((List.range 32).map fun k => u8 (q k)).toArray := fun q => by
    rw [List.map_map]; rfl
  rw [e1, e1] at h
  show pureRun P (Op.equalIn (9998 + 2) t (vecV 32 _) (vecV 32 _)) = _
  rw [show (vecV 32 fun k => u8 (f k)) = .agg ((List.range 32).map fun k => u8 (f k)).toArray from rfl, show (vecV 32 fun k => u8 (g k)) = .agg ((List.range 32).map fun k => u8 (g k)).toArray from rfl, h]
  congr 1
  rw [Bool.eq_iff_iff, List.all_eq_true, sR_iff]
  constructor
  · intro h1 k hk
    have h2 := h1 k (List.mem_range.2 hk)
    simp [List.getD, hk] at h2
    exact UInt8.toNat_inj.1 (by omega)
  · intro h1 k hk
    have hk' := List.mem_range.1 hk
    simp [List.getD, hk', h1 k hk']
theorem sameBits_row (f : Nat → UInt8) : Instr.sameBits 10000 (rowV f) (rowV f) = true := by
  have h : ∀ l : List Value, (∀ v ∈ l, Instr.sameBits 9999 v v = true) → (l.zip l).all (fun (x, y) => Instr.sameBits 9999 x y) = true := fun l => by
    induction l with
    | nil => intro _; rfl
    | cons v l ih => intro hv; simp only [List.zip_cons_cons, List.all_cons, hv v (.head _), Bool.true_and]; exact ih fun u hu => hv u (.tail _ hu)
  show (_ == _ && (List.zip _ _).all _) = true
  rw [beq_self_eq_true, Bool.true_and]
  refine h _ fun v hv => ?_
  obtain ⟨k, _, rfl⟩ := List.mem_map.1 hv
  simp [Instr.sameBits, u8]
theorem row_keys {P : Program} {mt kt et e : TypeId} {β : Type} {ev : β → Value} {z : β} (hm : P.underlying mt = some (.map kt et)) (ht : P.underlying kt = some (.array 32 e)) (he : P.underlying e = some (.int .u8)) (hs : sizeB P e = some 1) (hz : ∀ w, (zeroValue et).run P w = .ok (ev z) w) : MapT P mt kt et rowV ev z sR :=
  have eqr : ∀ k h w, (Op.equal kt (rowV k) (rowV h)).run P w = .ok (sR k h) w := fun k h w => pureRun_run (equal_row ht he hs k h) w
  ⟨hm, fun em k w => chk_row ht he hs em k w, fun k l n w => (run_findKey_eq w (by rw [ht]) _ _).trans (run_asking eqr k w l n 0), eqr, fun k h e => by rw [rowV_eq e]; exact sameBits_row h, hz⟩
theorem is_eqlR {P : Program} {t e t' : TypeId} {x y : Operand} (ht : P.underlying t = some (.array 32 e)) (he : P.underlying e = some (.int .u8)) (hs : sizeB P e = some 1) (hg : P.eqGuardType P.depth t = false) (f g : Nat → UInt8) :
    IsOp P (.binOp .eql t x y t') [rowV f, rowV g] (.bool (sR f g)) := isOp_bin (guard_arr hg) (by
  show pureRun P (do pure (Value.bool (← Op.equal t (rowV f) (rowV g)))) = _
  rw [pureRun_bind', equal_row ht he hs]; rfl)
theorem is_neqR {P : Program} {t e t' : TypeId} {x y : Operand} (ht : P.underlying t = some (.array 32 e)) (he : P.underlying e = some (.int .u8)) (hs : sizeB P e = some 1) (hg : P.eqGuardType P.depth t = false) (f g : Nat → UInt8) :
    IsOp P (.binOp .neq t x y t') [rowV f, rowV g] (.bool (!(sR f g))) := isOp_bin (guard_arr hg) (by
  show pureRun P (do pure (Value.bool (!(← Op.equal t (rowV f) (rowV g))))) = _
  rw [pureRun_bind', equal_row ht he hs]; rfl)
end Go.Eng
end
section
namespace Go.Eng
open Go.WideShapes Go.ChangeMaps
set_option linter.unusedSimpArgs false
set_option linter.unusedVariables false
def unseen (o : List Nat) (n : Nat) : Bool := (List.range n).any fun i => !o.contains i
def pk (o : List Nat) (n c : Nat) : Nat := if c < n ∧ o.contains c = false then c else ((List.range n).find? fun i => !o.contains i).getD 0
theorem pk_ok {o : List Nat} {n : Nat} (h : unseen o n = true) (c : Nat) : pk o n c < n ∧ o.contains (pk o n c) = false := by
  unfold pk
  split
  · rename_i hc; exact hc
  · obtain ⟨i, h1, h2⟩ := List.any_eq_true.1 h
    cases hf : (List.range n).find? (fun i => !o.contains i) with
    | none => have := List.find?_eq_none.1 hf i h1; exact absurd h2 this
    | some j =>
      have h3 := List.find?_some hf
      have h4 := List.mem_of_find?_eq_some hf
      exact ⟨List.mem_range.1 h4, by simpa using h3⟩
theorem pk_self {o : List Nat} {n c : Nat} (h : c < n) (h2 : o.contains c = false) : pk o n c = c := if_pos ⟨h, h2⟩
theorem unseen_f {o : List Nat} {n : Nat} (h : unseen o n = false) : ∀ i, i < n → o.contains i = true := fun i hi => by
  cases hc : o.contains i with
  | true => rfl
  | false =>
    have : unseen o n = true := List.any_eq_true.2 ⟨i, List.mem_range.2 hi, by rw [hc]; rfl⟩
    rw [h] at this; cases this
def leftN (o : List Nat) (n : Nat) : Nat := ((List.range n).filter fun i => !o.contains i).length
theorem leftN_lt {o : List Nat} {n j : Nat} (h : j < n) (h2 : o.contains j = false) : leftN (o ++ [j]) n < leftN o n := by
  unfold leftN
  refine filter_lt (fun i => !o.contains i) (fun i => !(o ++ [j]).contains i) (fun x hx => ?_) j (by rw [h2]; rfl) (by simp) _ (List.mem_range.2 h)
  simp at hx ⊢; exact hx.1
def itC (bm n : Nat) (o : List Nat) : Cont := .map (.o (.mapIter (some bm) n o.toArray n)) 0
def Cont.clk : Cont → Nat
  | .map _ c => c
  | _ => 0
def itB : List Blk → Cont
  | b :: _ => itC b.name b.cont.clk []
  | [] => .lit []
theorem RunsO.darkV {F : Blk → Prop} {P : Program} {f : FuncId} {args : List Value} {bs : List (Option Blk)} {k : Nat} {v : List Nat → Value} {out : List Nat → List (Option Blk)} (fl : List Bool) (h : RunsO F P f args bs k v out) :
    RunsO F P f args bs k v (fun ns => dkn fl (out ns)) := fun w hb ha hF => Calls.mono (h w hb ha hF) fun _ _ ⟨ns, h1, h2, h3⟩ => ⟨ns, h1, h2, h3.sub (dkn_sub fl (out ns))⟩
theorem SRuns.valE {P : Program} {s : Sem Next} {bs : List Blk} {k : Nat} {a b : Value} {out : List Nat → List (Option Blk)} (h : SRuns P s bs k (fun _ => a) out) (e : a = b) : SRuns P s bs k (fun _ => b) out := e ▸ h
def kvAt {α β : Type} (d : α × β) (l : List (α × β)) (i : Nat) : α × β := l.getD i d
section
variable {α β : Type} {P : Program} {mt kt et : TypeId} {kv : α → Value} {ev : β → Value} {z : β} {eqb : α → α → Bool}
theorem ents_born : ∀ (l : List (α × β)) (n : Nat), (entsL kv ev l n).map (·.born) = List.range' n l.length
  | [], _ => rfl
  | (h, x) :: r, n => by simp [entsL, List.range'_succ, ents_born r (n + 1)]
theorem ents_mem {l : List (α × β)} {e : MapEntry} (he : e ∈ entsL kv ev l 0) : ∃ j h x, l[j]? = some (h, x) ∧ e = ⟨kv h, ev x, j⟩ := by
  obtain ⟨j, hj, he⟩ := List.getElem_of_mem he
  have hl : j < l.length := by rw [← entsL_len (kv := kv) (ev := ev) l 0]; exact hj
  refine ⟨j, l[j].1, l[j].2, by simp [hl], ?_⟩
  have := entsL_get (kv := kv) (ev := ev) l 0 j l[j].1 l[j].2 (by simp [hl])
  rw [List.getElem?_eq_getElem hj] at this
  rw [← he]; simpa using Option.some.inj this
def rngSem (t : TypeId) (x : Value) : Sem Next := do pure (.value (← Instr.range t x))
def nxtSem (x : Value) (ty : TypeId) : Sem Next := do pure (.value (← Instr.next x false ty))
def entSem (x : Value) : Sem Next := do pure (.value (← Instr.entry x))
def mpeSem (t : TypeId) (x k : Value) : Sem Next := do pure (.value (← Instr.mapEntry t x k))
def estSem (t : TypeId) (x s v : Value) : Sem Next := do Instr.entryStore t x s v; pure .skip
theorem srun_rng (hm : P.underlying mt = some (.map kt et)) (b : Nat) (own : Bool) (l : List (α × β)) :
    SRuns P (rngSem mt (.map (some b))) [⟨b, own, 0, mapC kv ev l⟩] 1 (fun ns => ptr (ns.getD 0 0) 0) (fun ns => [none, some ⟨ns.getD 0 0, true, 0, itC b l.length []⟩]) := by
  intro w hall ha
  have hb := (hall _ (List.mem_singleton.2 rfl)).obj _ _ rfl
  obtain ⟨h1, h2⟩ := heap_alloc' w (.mapIter (some b) l.length #[] l.length)
  refine ⟨[w.heap.size], w.alloc (.mapIter (some b) l.length #[] l.length), rfl, .inl (run_value ?_), ⟨fun p c hpc => ?_, fun p p' c d hpp hc hd ho => ?_, ⟨rfl, rfl, rfl, by simp, fun j hj _ => h2 j hj, fun j hj => ?_, fun p c hpc ho => ?_⟩⟩⟩
  · exact run_range_map w mt kt et b _ _ hm hb
  · rcases p with _ | _ | p
    · simp [listMem] at hpc
    · injection hpc with hpc; subst hpc
      exact ⟨by simp, (fun o v ho => by cases ho), (fun _ o v ho => by cases ho), fun es2 c2 e2 => by injection e2 with e2 e3; subst e2; subst e3; exact h1⟩
    · simp [listMem] at hpc
  · rcases p with _ | _ | p
    · simp [listMem] at hc
    · rcases p' with _ | _ | p'
      · simp [listMem] at hd
      · exact absurd rfl hpp
      · simp [listMem] at hd
    · simp [listMem] at hc
  · obtain ⟨p, c, hpc, ho, rfl⟩ := hj
    rcases p with _ | _ | p
    · simp [listMem] at hpc
    · injection hpc with hpc; subst hpc; exact .inr (Nat.le_refl _)
    · simp [listMem] at hpc
  · rcases p with _ | _ | p
    · simp [listMem] at hpc
    · injection hpc with hpc; subst hpc; cases ho
    · simp [listMem] at hpc
theorem post_two {r : Nat} {x x' : Cont} {B : Blk} {w w' : World} (hr : Holds ⟨r, true, 0, x⟩ w) (h1 : w'.os = w.os) (h2 : w'.output = w.output) (h3 : w'.tape = w.tape) (h4 : w.heap.size ≤ w'.heap.size) (h5 : ∀ j, j ≠ r → w'.heap[j]? = w.heap[j]?)
    (hx : Holds ⟨r, true, 0, x'⟩ w') : Post (listMem ([⟨r, true, 0, x⟩, B].map some)) w (listMem [some ⟨r, true, 0, x'⟩, none]) w' := by
  refine ⟨fun p c hpc => ?_, fun p p' c d hpp hc hd ho => ?_, ⟨h1, h2, h3, h4, fun j hj hn => h5 j fun e => hn ⟨0, _, rfl, rfl, e.symm⟩, fun j hj => ?_, fun p c hpc ho => ?_⟩⟩
  · rcases p with _ | _ | p
    · injection hpc with hpc; subst hpc; exact hx
    · simp [listMem] at hpc
    · simp [listMem] at hpc
  · rcases p with _ | _ | p
    · rcases p' with _ | _ | p'
      · exact absurd rfl hpp
      · simp [listMem] at hd
      · simp [listMem] at hd
    · simp [listMem] at hc
    · simp [listMem] at hc
  · obtain ⟨p, c, hpc, ho, rfl⟩ := hj
    rcases p with _ | _ | p
    · injection hpc with hpc; subst hpc; exact .inl ⟨0, _, rfl, rfl, rfl⟩
    · simp [listMem] at hpc
    · simp [listMem] at hpc
  · rcases p with _ | _ | p
    · injection hpc with hpc; subst hpc; cases ho
    · simp [listMem] at hpc
    · simp [listMem] at hpc
theorem post_none {bs : List Blk} {w : World} (k : Nat) : Post (listMem (bs.map some)) w (listMem (List.replicate k none)) w :=
  have hn : ∀ p c, listMem (List.replicate k (none : Option Blk)) p ≠ some c := fun p c h => by
    unfold listMem at h
    rw [List.getElem?_replicate] at h
    by_cases hk : p < k
    · rw [if_pos hk] at h; cases h
    · rw [if_neg hk] at h; cases h
  ⟨fun p c hpc => absurd hpc (hn p c), fun p p' c d hpp hc => absurd hc (hn p c), ⟨rfl, rfl, rfl, Nat.le_refl _, fun _ _ _ => rfl, fun j hj => by obtain ⟨p, c, hpc, _⟩ := hj; exact absurd hpc (hn p c), fun p c hpc => absurd hpc (hn p c)⟩⟩
theorem left_iff {l : List (α × β)} {o : List Nat} : (leftOf (entsL kv ev l 0).toArray o.toArray).size = 0 ↔ unseen o l.length = false := by
  unfold leftOf
  constructor
  · intro h
    have h2 : Array.filter (fun e => !o.toArray.contains e.born) (entsL kv ev l 0).toArray = #[] := Array.eq_empty_of_size_eq_zero h
    rw [Array.filter_eq_empty_iff] at h2
    cases hu : unseen o l.length with
    | false => rfl
    | true =>
      obtain ⟨i, h3, h4⟩ := List.any_eq_true.1 hu
      have hi := List.mem_range.1 h3
      have := entsL_get (kv := kv) (ev := ev) l 0 i l[i].1 l[i].2 (by simp [hi])
      have hm : (⟨kv l[i].1, ev l[i].2, 0 + i⟩ : MapEntry) ∈ (entsL kv ev l 0).toArray := by simpa using List.mem_of_getElem? this
      have h5 := h2 _ hm
      simp at h5 h4
      exact absurd h5 h4
  · intro h
    have hs := unseen_f h
    have : Array.filter (fun e => !o.toArray.contains e.born) (entsL kv ev l 0).toArray = #[] := by
      rw [Array.filter_eq_empty_iff]
      intro e he
      obtain ⟨j, h', x, h1, rfl⟩ := ents_mem (by simpa using he)
      have hj : j < l.length := (List.getElem?_eq_some_iff.1 h1).1
      have := hs j hj
      simp at this ⊢
      exact this
    rw [this]; rfl
theorem srun_nxt (ty r b : Nat) (own : Bool) (l : List (α × β)) (o : List Nat) (d : α × β) (hu : unseen o l.length = true) :
    SRuns P (nxtSem (ptr r 0) ty) [⟨r, true, 0, itC b l.length o⟩, ⟨b, own, 0, mapC kv ev l⟩] 1
      (fun ns => .tuple #[.bool true, kv (kvAt d l (pk o l.length (ns.getD 0 0))).1, ev (kvAt d l (pk o l.length (ns.getD 0 0))).2]) (fun ns => [some ⟨r, true, 0, itC b l.length (o ++ [pk o l.length (ns.getD 0 0)])⟩, none]) := by
  intro w hall ha
  have hH := hall _ (List.mem_cons_self ..)
  have hr := hH.obj _ _ rfl
  have hb := (hall _ (List.mem_cons_of_mem _ (List.mem_singleton.2 rfl))).obj _ _ rfl
  have hr' : w.heap[r]? = some (.mapIter (some b) l.length o.toArray l.length) := hr
  have hb' : w.heap[b]? = some (.map (entsL kv ev l 0).toArray l.length) := hb
  have hold : ∀ x ∈ (entsL kv ev l 0).toArray.toList, x.born < l.length := fun x hx => by
    obtain ⟨j, h, y, h1, rfl⟩ := ents_mem (by simpa using hx)
    exact (List.getElem?_eq_some_iff.1 h1).1
  rcases run_next_at (P := P) w ty r b l.length l.length o.toArray _ _ hr' hb' hold (Nat.le_refl _) with ⟨h0, _⟩ | ⟨e, he, w1, hw1, hrun⟩
  · rw [left_iff.1 h0] at hu; cases hu
  obtain ⟨he1, he2⟩ := mem_left he
  obtain ⟨j, h, x, hj, rfl⟩ := ents_mem (by simpa using he1)
  have hjl : j < l.length := (List.getElem?_eq_some_iff.1 hj).1
  have hjo : o.contains j = false := by simpa using he2
  have hpk := pk_self hjl hjo
  have hat : kvAt d l j = (h, x) := by unfold kvAt; rw [List.getD_eq_getElem?_getD, hj]; rfl
  have hb1 : w1.heap = w.heap := by rcases hw1 with rfl | rfl <;> rfl
  have hro : w1.heap[r]? = some (.mapIter (some b) l.length o.toArray l.length) := by rw [hb1]; exact hr'
  obtain ⟨s1, s2⟩ := heap_set' (o' := .mapIter (some b) l.length (o.toArray.push j) l.length) hro
  refine ⟨[j], setBlock w1 r (.mapIter (some b) l.length (o.toArray.push j) l.length), rfl, .inl (run_value (hrun.trans ?_)), post_two hH ?_ ?_ ?_ ?_ (fun i hi => ?_) ?_⟩
  · show _ = Result.ok (Value.tuple #[Value.bool true, kv (kvAt d l (pk o l.length j)).1, ev (kvAt d l (pk o l.length j)).2]) _
    rw [hpk, hat]
  · rcases hw1 with rfl | rfl <;> rfl
  · rcases hw1 with rfl | rfl <;> rfl
  · rcases hw1 with rfl | rfl <;> rfl
  · simp [setBlock, hb1]
  · have := s2 i hi
    rw [hb1] at this
    simpa [setBlock, hb1] using this
  · refine ⟨?_, (fun o v ho => by cases ho), (fun _ o v ho => by cases ho), fun es2 c2 e2 => ?_⟩
    · have := hH.lt; simpa [setBlock, hb1] using this
    · injection e2 with e2 e3; subst e2; subst e3
      show (w1.heap.setIfInBounds r _)[r]? = _
      rw [s1]
      show _ = some (Obj.mapIter (some b) l.length (o ++ [pk o l.length j]).toArray l.length)
      rw [hpk]; simp
theorem SRuns.drop1 {P : Program} {s : Sem Next} {bs : List Blk} {v : Value} {out : List (Option Blk)} {k : Nat} (h : SRuns P s bs k (fun _ => v) (fun _ => out)) : SRuns P s bs 0 (fun _ => v) (fun _ => out) := fun w hw ha =>
  have ⟨_, w', _, h2, h3⟩ := h w hw ha
  ⟨[], w', rfl, h2, h3⟩
theorem srun_nxt1 (ty r b : Nat) (own : Bool) (k : α) (x : β) :
    SRuns P (nxtSem (ptr r 0) ty) [⟨r, true, 0, itC b 1 []⟩, ⟨b, own, 0, mapC kv ev [(k, x)]⟩] 0 (fun _ => .tuple #[.bool true, kv k, ev x]) (fun _ => [some ⟨r, true, 0, itC b 1 [0]⟩, none]) := by
  have hu : unseen [] ([(k, x)] : List (α × β)).length = true := rfl
  have h := srun_nxt (P := P) (kv := kv) (ev := ev) ty r b own [(k, x)] [] (k, x) hu
  have e : ∀ c, pk [] ([(k, x)] : List (α × β)).length c = 0 := fun c => by have := (pk_ok hu c).1; simp at this; exact this
  simp only [e] at h
  exact h.drop1
theorem srun_nxt0 (ty r b : Nat) (ow own : Bool) (l : List (α × β)) (o : List Nat) (hu : unseen o l.length = false) :
    SRuns P (nxtSem (ptr r 0) ty) [⟨r, ow, 0, itC b l.length o⟩, ⟨b, own, 0, mapC kv ev l⟩] 0 (fun _ => .tuple #[.bool false]) (fun _ => [none, none]) := by
  intro w hall ha
  have hr := (hall _ (List.mem_cons_self ..)).obj _ _ rfl
  have hb := (hall _ (List.mem_cons_of_mem _ (List.mem_singleton.2 rfl))).obj _ _ rfl
  have hold : ∀ x ∈ (entsL kv ev l 0).toArray.toList, x.born < l.length := fun x hx => by
    obtain ⟨j, h, y, h1, rfl⟩ := ents_mem (by simpa using hx)
    exact (List.getElem?_eq_some_iff.1 h1).1
  have h0 : (leftOf (entsL kv ev l 0).toArray o.toArray).size = 0 := left_iff.2 hu
  rcases run_next_at (P := P) w ty r b l.length l.length o.toArray _ _ hr hb hold (Nat.le_refl _) with ⟨_, h1⟩ | ⟨e, he, _⟩
  · exact ⟨[], w, rfl, .inl (run_value h1), post_none 2⟩
  · have : (leftOf (entsL kv ev l 0).toArray o.toArray) = #[] := Array.eq_empty_of_size_eq_zero h0
    rw [this] at he; simp at he
theorem srun_ent (r b : Nat) (ow own : Bool) (l : List (α × β)) (o : List Nat) (j : Nat) (d : α × β) (hj : j < l.length) :
    SRuns P (entSem (ptr r 0)) [⟨r, ow, 0, itC b l.length (o ++ [j])⟩, ⟨b, own, 0, mapC kv ev l⟩] 0 (fun _ => .tuple #[kv (kvAt d l j).1, ev (kvAt d l j).2]) (fun _ => [none, none]) := by
  intro w hall ha
  have hr := (hall _ (List.mem_cons_self ..)).obj _ _ rfl
  have hb := (hall _ (List.mem_cons_of_mem _ (List.mem_singleton.2 rfl))).obj _ _ rfl
  have he := entsL_get (kv := kv) (ev := ev) l 0 j l[j].1 l[j].2 (by simp [hj])
  have hat : kvAt d l j = l[j] := by unfold kvAt; simp [List.getD_eq_getElem?_getD, hj]
  have hr2 : w.heap[r]? = some (.mapIter (some b) l.length (o.toArray.push (⟨kv l[j].1, ev l[j].2, 0 + j⟩ : MapEntry).born) l.length) := by
    have : w.heap[r]? = some (.mapIter (some b) l.length (o ++ [j]).toArray l.length) := hr
    rw [this]; simp
  refine ⟨[], w, rfl, .inl (run_value ?_), post_none 2⟩
  rw [hat]
  exact run_entry_at (P := P) w r b l.length o.toArray _ _ _ hr2 hb (List.mem_of_getElem? he) (by rw [show (entsL kv ev l 0).toArray.toList = entsL kv ev l 0 by simp, ents_born]; exact List.nodup_range')
theorem srun_look1 (M : MapT P mt kt et kv ev z eqb) (b : Nat) (own : Bool) (l : List (α × β)) (k : α) :
    SRuns P (lookSem mt (.map (some b)) (kv k) false) [⟨b, own, 0, mapC kv ev l⟩] 0 (fun _ => ev ((findE eqb k l).getD z)) (fun _ => [none]) := by
  intro w hall ha
  have hb := (hall _ (List.mem_singleton.2 rfl)).obj _ _ rfl
  refine ⟨[], w, rfl, .inl (run_value ?_), post_none 1⟩
  simp only at hb
  unfold Instr.lookup
  simp only [Sem.run_bind, run_underlying M.hm, Result.andThen_ok, run_gm hb, Sem.run_pure, M.chk, run_findKeyM M]
  have hE := findI_E (eqb := eqb) k l 0
  cases hf : findI eqb k l 0 with
  | none =>
    rw [hf] at hE; simp only [Option.map_none] at hE
    rw [← hE]
    simp [M.zer]
  | some q =>
    rw [hf] at hE; simp only [Option.map_some] at hE
    rw [← hE]
    simp
def idxI (eqb : α → α → Bool) (k : α) (l : List (α × β)) : Nat := match findI eqb k l 0 with
  | some q => q.1
  | none => l.length
theorem ents_key (k : α) : ∀ (l : List (α × β)) (n i : Nat) (j : Nat) (y : β), findI eqb k l i = some (j, y) →
    (entsL kv ev l n).modify (j - i) (fun e => { e with key := kv k }) = entsL kv ev (putE eqb k y l) n
  | [], _, _, _, _, e => by cases e
  | (h, y0) :: r, n, i, j, y, e => by
    simp only [findI] at e
    split at e
    · rename_i he
      injection e with e; injection e with e1 e2; subst e1; subst e2
      simp [putE, he, entsL]
    · rename_i he
      obtain ⟨_, h1, _, _⟩ := findI_spec k r (i + 1) j y e
      have i1 := ents_key k r (n + 1) (i + 1) j y e
      rw [show j - i = (j - (i + 1)) + 1 by omega]
      simp only [putE, he, entsL]
      simp [i1, entsL]
theorem ents_val (k : α) (x y : β) : ∀ (l : List (α × β)) (n i : Nat), (entsL kv ev (putE eqb k y l) n).modify ((match findI eqb k l i with | some q => q.1 | none => i + l.length) - i) (fun e => { e with val := ev x }) = entsL kv ev (putE eqb k x l) n
  | [], n, i => by simp [findI, putE, entsL]
  | (h, y0) :: r, n, i => by
    simp only [findI, putE]
    by_cases he : eqb k h = true
    · simp [he, entsL]
    · have ih := ents_val k x y r (n + 1) (i + 1)
      simp only [he, Bool.false_eq_true, if_false, entsL]
      cases hf : findI eqb k r (i + 1) with
      | none =>
        rw [hf] at ih
        rw [show i + 1 + r.length - (i + 1) = r.length by omega] at ih
        simp only [List.length_cons]
        rw [show i + (r.length + 1) - i = r.length + 1 by omega]
        simp [ih]
      | some q =>
        rw [hf] at ih
        obtain ⟨_, h1, _, _⟩ := findI_spec k r (i + 1) q.1 q.2 hf
        simp only at ih ⊢
        have : i + 1 ≤ q.1 := (findI_spec k r (i + 1) q.1 q.2 hf).choose_spec.1
        rw [show q.1 - i = (q.1 - (i + 1)) + 1 by omega]
        simp [ih]
theorem put_len (k : α) (x : β) (l : List (α × β)) : (putE eqb k x l).length = match findI eqb k l 0 with | some _ => l.length | none => l.length + 1 := by
  cases hf : findI eqb k l 0 with
  | none => exact (entsL_new (kv := fun _ => Value.bool true) (ev := fun _ => Value.bool true) k x l 0 0 hf).2
  | some q => exact (entsL_put (kv := fun _ => Value.bool true) (ev := fun _ => Value.bool true) k x l 0 0 q.1 q.2 hf).2
theorem idx_lt (k : α) (x : β) (l : List (α × β)) : idxI eqb k l < (putE eqb k x l).length := by
  rw [put_len]
  unfold idxI
  cases hf : findI eqb k l 0 with
  | none => simp
  | some q =>
    obtain ⟨h, _, h2, _⟩ := findI_spec k l 0 q.1 q.2 hf
    exact (List.getElem?_eq_some_iff.1 (by simpa using h2)).1
theorem srun_mpe (M : MapT P mt kt et kv ev z eqb) (b : Nat) (l : List (α × β)) (k : α) :
    SRuns P (mpeSem mt (.map (some b)) (kv k)) [⟨b, true, 0, mapC kv ev l⟩] 0 (fun _ => .tuple #[ev ((findE eqb k l).getD z), nat (idxI eqb k l)]) (fun _ => [some ⟨b, true, 0, mapC kv ev (putE eqb k ((findE eqb k l).getD z) l)⟩]) := by
  intro w hall ha
  have hH := hall _ (List.mem_singleton.2 rfl)
  have hb := hH.obj _ _ rfl
  simp only at hb
  refine ⟨[], _, rfl, .inl (run_value ?_), post_map hH⟩
  unfold Instr.mapEntry
  simp only [Sem.run_bind, run_underlying M.hm, Result.andThen_ok, run_gm hb, M.chk, run_findKeyM M]
  have hE := findI_E (eqb := eqb) k l 0
  cases hf : findI eqb k l 0 with
  | none =>
    obtain ⟨i1, i2⟩ := entsL_new (kv := kv) (ev := ev) k z l 0 0 hf
    rw [hf] at hE; simp only [Option.map_none] at hE
    have hi : idxI eqb k l = l.length := by unfold idxI; rw [hf]
    simp only [Option.map_none, Sem.run_bind, M.zer, run_sm _ hb, Sem.run_pure, Result.andThen_ok, ← hE, Option.getD_none, hi]
    rw [i2, ← i1]
    simp [nat, goInt]
  | some q =>
    obtain ⟨j, y⟩ := q
    obtain ⟨h, _, h2, h3⟩ := findI_spec k l 0 j y hf
    have i1 := ents_key (kv := kv) (ev := ev) k l 0 0 j y hf
    have i2 := (entsL_put (kv := kv) (ev := ev) k y l 0 0 j y hf).2
    have hj := entsL_get (kv := kv) (ev := ev) l 0 j h y (by simpa using h2)
    have hs := M.eqv k h h3
    rw [hf] at hE; simp only [Option.map_some] at hE
    have hi : idxI eqb k l = j := by unfold idxI; rw [hf]
    simp only [Option.map_some, List.getElem?_toArray, hj, Option.getD_some, Instr.keyThatStays, hs, if_true, Sem.run_pure, Result.andThen_ok, run_sm _ hb, ← hE, hi]
    rw [i2, ← i1]
    simp [run_sm _ hb, nat, goInt]
theorem srun_est (t : TypeId) (b : Nat) (l : List (α × β)) (k : α) (x y : β) :
    SRuns P (estSem t (.map (some b)) (nat (idxI eqb k l)) (ev x)) [⟨b, true, 0, mapC kv ev (putE eqb k y l)⟩] 0 (fun _ => undef) (fun _ => [some ⟨b, true, 0, mapC kv ev (putE eqb k x l)⟩]) := by
  intro w hall ha
  have hH := hall _ (List.mem_singleton.2 rfl)
  have hb := hH.obj _ _ rfl
  simp only at hb
  refine ⟨[], _, rfl, .inr ⟨?_, rfl⟩, post_map hH⟩
  unfold estSem Instr.entryStore
  have hlt := idx_lt (eqb := eqb) k y l
  have hf : (entsL kv ev (putE eqb k y l) 0).toArray.findIdx? (fun e => ((e.born : Nat) : Int) == ((idxI eqb k l : Nat) : Int)) = some (idxI eqb k l) := by
    rw [Array.findIdx?_eq_some_iff_getElem]
    have hg : ∀ j (hj : j < (entsL kv ev (putE eqb k y l) 0).toArray.size), (entsL kv ev (putE eqb k y l) 0).toArray[j].born = j := fun j hj => by
      have hj' : j < (putE eqb k y l).length := by simpa [entsL_len] using hj
      have := entsL_get (kv := kv) (ev := ev) (putE eqb k y l) 0 j (putE eqb k y l)[j].1 (putE eqb k y l)[j].2 (by simp [hj'])
      have h2 : (entsL kv ev (putE eqb k y l) 0)[j]'(by simpa using hj) = ⟨kv (putE eqb k y l)[j].1, ev (putE eqb k y l)[j].2, 0 + j⟩ := (List.getElem?_eq_some_iff.1 this).2
      simp [h2]
    refine ⟨by simpa [entsL_len] using hlt, by rw [hg]; simp, fun j hj => by rw [hg]; simp; omega⟩
  have hv := ents_val (kv := kv) (ev := ev) (eqb := eqb) k x y l 0 0
  have hi : (match findI eqb k l 0 with | some q => q.1 | none => 0 + l.length) = idxI eqb k l := by unfold idxI; cases findI eqb k l 0 <;> simp
  rw [hi, Nat.sub_zero] at hv
  have hl2 : (putE eqb k x l).length = (putE eqb k y l).length := by rw [put_len, put_len]
  have ha : (asInt (nat (idxI eqb k l))).run P w = .ok ((idxI eqb k l : Nat) : Int) w := by simp [asInt, asIntOf, nat]
  simp only [Sem.run_bind, run_gm hb, Result.andThen_ok, ha, Sem.run_pure, hf, run_sm _ hb]
  rw [hl2, ← hv]
  simp
end
end Go.Eng
end
section
namespace Go.Eng
set_option linter.unusedSimpArgs false
set_option linter.unusedVariables false
set_option linter.unusedSectionVars false
def sumN (f : Nat → Nat) : Nat → Nat
  | 0 => 0
  | k + 1 => sumN f k + f k
theorem sumN_congr {f g : Nat → Nat} : ∀ n, (∀ i, i < n → f i = g i) → sumN f n = sumN g n
  | 0, _ => rfl
  | n + 1, h => by simp only [sumN]; rw [sumN_congr n fun i hi => h i (by omega), h n (by omega)]
theorem sumN_le {f g : Nat → Nat} : ∀ n, (∀ i, i < n → f i ≤ g i) → sumN f n ≤ sumN g n
  | 0, _ => Nat.le_refl _
  | n + 1, h => by simp only [sumN]; have := sumN_le n fun i hi => h i (by omega); have := h n (by omega); omega
theorem sumN_add (f g : Nat → Nat) : ∀ n, sumN (fun i => f i + g i) n = sumN f n + sumN g n
  | 0 => rfl
  | n + 1 => by simp only [sumN]; rw [sumN_add f g n]; omega
theorem sumU_N (s : Nat → UInt64) : ∀ n, sumU s n = sumN (fun i => (s i).toNat) n
  | 0 => rfl
  | n + 1 => by simp only [sumU, sumN]; rw [sumU_N s n]
def lsum (f : Nat → Nat) : List Nat → Nat
  | [] => 0
  | i :: o => f i + lsum f o
theorem lsum_perm {f : Nat → Nat} {a b : List Nat} (h : a.Perm b) : lsum f a = lsum f b := by
  induction h with
  | nil => rfl
  | cons x _ ih => simp only [lsum, ih]
  | swap x y l => simp only [lsum]; omega
  | trans _ _ i1 i2 => exact i1.trans i2
theorem lsum_erase {f : Nat → Nat} {a : Nat} {l : List Nat} (h : a ∈ l) : lsum f l = f a + lsum f (l.erase a) := (lsum_perm (List.perm_cons_erase h)).trans rfl
theorem lsum_le (f : Nat → Nat) : ∀ (n : Nat) (l : List Nat), l.Nodup → (∀ x ∈ l, x < n) → lsum f l ≤ sumN f n
  | 0, l, _, h => by
    cases l with
    | nil => exact Nat.le_refl _
    | cons x l => exact absurd (h x (.head _)) (by omega)
  | n + 1, l, hn, h => by
    simp only [sumN]
    by_cases hm : n ∈ l
    · rw [lsum_erase hm]
      have := lsum_le f n (l.erase n) (hn.erase n) fun x hx => by
        have h1 := h x (List.mem_of_mem_erase hx)
        have h2 : x ≠ n := fun e => by subst e; exact (hn.mem_erase_iff.1 hx).1 rfl
        omega
      omega
    · have := lsum_le f n l hn fun x hx => by
        have h1 := h x hx
        have h2 : x ≠ n := fun e => hm (e ▸ hx)
        omega
      omega
theorem lsum_eq (f : Nat → Nat) : ∀ (n : Nat) (l : List Nat), l.Nodup → (∀ x, x ∈ l ↔ x < n) → lsum f l = sumN f n
  | 0, l, _, h => by
    cases l with
    | nil => rfl
    | cons x l => exact absurd ((h x).1 (.head _)) (by omega)
  | n + 1, l, hn, h => by
    have hm : n ∈ l := (h n).2 (by omega)
    rw [lsum_erase hm, lsum_eq f n (l.erase n) (hn.erase n) fun x => by
      rw [hn.mem_erase_iff, h x]; omega]
    simp only [sumN]; omega
def decO : Nat → Nat → List Nat
  | 0, _ => []
  | k + 1, c => if c = 0 then [] else (c % 64 - 1) :: decO k (c / 64)
def codO : List Nat → Nat
  | [] => 0
  | x :: l => (x + 1) + 64 * codO l
theorem dec_cod : ∀ (l : List Nat) (k : Nat), l.length ≤ k → (∀ x ∈ l, x < 63) → decO k (codO l) = l
  | [], k, _, _ => by cases k <;> rfl
  | x :: l, 0, h, _ => by simp at h
  | x :: l, k + 1, h, hx => by
    have h1 := hx x (.head _)
    have e : codO (x :: l) = (x + 1) + 64 * codO l := rfl
    rw [e]
    unfold decO
    rw [if_neg (by omega), show ((x + 1) + 64 * codO l) % 64 - 1 = x by omega, show ((x + 1) + 64 * codO l) / 64 = codO l by omega, dec_cod l k (by simpa using h) fun y hy => hx y (.tail _ hy)]
structure OrdN (n : Nat) (o : List Nat) : Prop where
  nd : o.Nodup
  lt : ∀ x ∈ o, x < n
structure OrdA (n : Nat) (o : List Nat) : Prop extends OrdN n o where
  all : unseen o n = false
theorem OrdA.mem {n : Nat} {o : List Nat} (h : OrdA n o) (x : Nat) : x ∈ o ↔ x < n := ⟨h.lt x, fun hx => by simpa using unseen_f h.all x hx⟩
theorem OrdN.nil (n : Nat) : OrdN n [] := ⟨List.nodup_nil, by simp⟩
theorem OrdN.snoc {n : Nat} {o : List Nat} (h : OrdN n o) (hu : unseen o n = true) (c : Nat) : OrdN n (o ++ [pk o n c]) := by
  obtain ⟨h1, h2⟩ := pk_ok hu c
  refine ⟨List.nodup_append.2 ⟨h.nd, by simp, fun a ha b hb => ?_⟩, fun x hx => ?_⟩
  · simp at hb h2; subst hb
    exact fun e => h2 (e ▸ ha)
  · rcases List.mem_append.1 hx with hx | hx
    · exact h.lt x hx
    · simp at hx; omega
open Classical in
noncomputable def ordD (n c : Nat) : List Nat := if OrdA n (decO n c) then decO n c else List.range n
theorem ordA_range (n : Nat) : OrdA n (List.range n) := ⟨⟨List.nodup_range, fun x hx => List.mem_range.1 hx⟩, by
  cases h : unseen (List.range n) n with
  | false => rfl
  | true =>
    obtain ⟨i, h1, h2⟩ := List.any_eq_true.1 h
    simp at h1 h2; omega⟩
theorem ordD_ok (n c : Nat) : OrdA n (ordD n c) := by
  unfold ordD
  split
  · assumption
  · exact ordA_range n
theorem nodup_len {n : Nat} {o : List Nat} (h : OrdN n o) : o.length ≤ n := by
  have h1 := lsum_le (fun _ => 1) n o h.nd h.lt
  have h2 : ∀ l : List Nat, lsum (fun _ => 1) l = l.length := fun l => by
    induction l with
    | nil => rfl
    | cons x l ih => simp only [lsum, ih, List.length_cons]; omega
  have h3 : ∀ k, sumN (fun _ => 1) k = k := fun k => by
    induction k with
    | zero => rfl
    | succ k ih => simp only [sumN, ih]
  rw [h2, h3] at h1; exact h1
theorem ordD_cod {n : Nat} {o : List Nat} (h : OrdA n o) (hn : n ≤ 63) : ordD n (codO o) = o := by
  unfold ordD
  rw [dec_cod o n (nodup_len h.toOrdN) fun x hx => by have := h.lt x hx; omega, if_pos h]
section
variable {κ : Type} (eqb : κ → κ → Bool) (key : Nat → κ) (st : Nat → UInt64)
def gm (o : List Nat) : List (κ × UInt64) := o.foldl (fun m i => putE eqb (key i) ((findE eqb (key i) m).getD 0 + st i) m) []
theorem gm_snoc (o : List Nat) (j : Nat) : gm eqb key st (o ++ [j]) = putE eqb (key j) ((findE eqb (key j) (gm eqb key st o)).getD 0 + st j) (gm eqb key st o) := by
  unfold gm; rw [List.foldl_append]; rfl
end
structure Eqv {κ : Type} (eqb : κ → κ → Bool) : Prop where
  refl : ∀ a, eqb a a = true
  symm : ∀ a b, eqb a b = true → eqb b a = true
  trans : ∀ a b c, eqb a b = true → eqb b c = true → eqb a c = true
theorem eqv_beq {κ : Type} [BEq κ] [LawfulBEq κ] : Eqv (fun a b : κ => a == b) := ⟨fun a => by simp, fun a b h => by simpa using (eq_of_beq h).symm, fun a b c h k => by simpa using (eq_of_beq h).trans (eq_of_beq k)⟩
theorem eqv_row : Eqv sR := ⟨sR_refl, fun _ _ => sR_symm, fun _ _ _ => sR_trans⟩
theorem eqv_unit : Eqv (fun _ _ : Unit => true) := ⟨fun _ => rfl, fun _ _ _ => rfl, fun _ _ _ _ _ => rfl⟩
section
variable {κ β : Type} {eqb : κ → κ → Bool} (E : Eqv eqb)
include E
theorem Eqv.comm (a b : κ) : eqb a b = eqb b a := Bool.eq_iff_iff.2 ⟨E.symm a b, E.symm b a⟩
theorem Eqv.left {a b : κ} (h : eqb a b = true) (c : κ) : eqb a c = eqb b c := Bool.eq_iff_iff.2 ⟨fun k => E.trans b a c (E.symm a b h) k, fun k => E.trans a b c h k⟩
theorem find_congr {a b : κ} (h : eqb a b = true) : ∀ m : List (κ × β), findE eqb a m = findE eqb b m
  | [] => rfl
  | (k, x) :: m => by simp only [findE, E.left h k, find_congr h m]
theorem find_put_same (k : κ) (x : β) : ∀ m : List (κ × β), findE eqb k (putE eqb k x m) = some x
  | [] => by simp [putE, findE, E.refl]
  | (h, y) :: m => by
    simp only [putE]
    by_cases e : eqb k h = true
    · simp [e, findE, E.refl]
    · simp [e, findE, find_put_same k x m]
theorem find_put_other {a k : κ} (h : eqb a k = false) (x : β) : ∀ m : List (κ × β), findE eqb a (putE eqb k x m) = findE eqb a m
  | [] => by simp [putE, findE, h]
  | (b, y) :: m => by
    simp only [putE]
    by_cases e : eqb k b = true
    · have : eqb a b = false := by
        cases hc : eqb a b with
        | false => rfl
        | true => rw [E.trans a b k hc (E.symm k b e)] at h; cases h
      simp [e, findE, h, this]
    · simp only [e, findE]
      by_cases e2 : eqb a b = true
      · simp [e2, findE]
      · simp [e2, findE, find_put_other h x m]
theorem gm_find (key : Nat → κ) (st : Nat → UInt64) (k : κ) : ∀ o : List Nat, ((findE eqb k (gm eqb key st o)).getD 0).toNat = lsum (fun i => if eqb k (key i) = true then (st i).toNat else 0) o % 2 ^ 64 := by
  have key' : ∀ (o : List Nat) (m : List (κ × UInt64)), ((findE eqb k (o.foldl (fun m i => putE eqb (key i) ((findE eqb (key i) m).getD 0 + st i) m) m)).getD 0).toNat = (((findE eqb k m).getD 0).toNat + lsum (fun i => if eqb k (key i) = true then (st i).toNat else 0) o) % 2 ^ 64 := by
    intro o
    induction o with
    | nil => intro m; simp only [List.foldl_nil, lsum, Nat.add_zero]; exact (Nat.mod_eq_of_lt (UInt64.toNat_lt _)).symm
    | cons i o ih =>
      intro m
      rw [List.foldl_cons, ih]
      simp only [lsum]
      by_cases e : eqb k (key i) = true
      · rw [find_congr E e, find_put_same E, ← find_congr E e, if_pos e]
        simp only [Option.getD_some, UInt64.toNat_add]
        omega
      · rw [find_put_other E (by simpa using e), if_neg e, Nat.zero_add]
  intro o
  have := key' o []
  rw [show findE eqb k ([] : List (κ × UInt64)) = none from rfl, show ((none : Option UInt64).getD 0).toNat = 0 from rfl, Nat.zero_add] at this
  exact this
theorem srun_look2 {P : Program} {mt kt et : TypeId} {kv : κ → Value} {ev : β → Value} {z : β} (M : MapT P mt kt et kv ev z eqb) (b : Nat) (own : Bool) (l : List (κ × β)) (k : κ) :
    SRuns P (lookSem mt (.map (some b)) (kv k) false) [⟨b, own, 0, mapC kv ev (putE eqb k ((findE eqb k l).getD z) l)⟩] 0 (fun _ => ev ((findE eqb k l).getD z)) (fun _ => [none]) := by
  have h := srun_look1 M b own (putE eqb k ((findE eqb k l).getD z) l) k
  rw [find_put_same E] at h
  exact h
def KD (eqb : κ → κ → Bool) (m : List (κ × β)) : Prop := m.Pairwise fun a b => eqb a.1 b.1 = false
theorem mem_put {k : κ} {x : β} {m : List (κ × β)} {p : κ × β} (h : p ∈ putE eqb k x m) : p = (k, x) ∨ p ∈ m := by
  induction m with
  | nil => simp [putE] at h; exact .inl h
  | cons q m ih =>
    obtain ⟨b, y⟩ := q
    simp only [putE] at h
    by_cases e : eqb k b = true
    · simp only [e, if_true] at h
      rcases List.mem_cons.1 h with h | h
      · exact .inl h
      · exact .inr (.tail _ h)
    · simp only [e] at h
      rcases List.mem_cons.1 h with h | h
      · exact .inr (h ▸ .head _)
      · rcases ih h with h | h
        · exact .inl h
        · exact .inr (.tail _ h)
theorem KD.put {k : κ} {x : β} {m : List (κ × β)} (h : KD eqb m) : KD eqb (putE eqb k x m) := by
  induction m with
  | nil => simp [putE, KD]
  | cons q m ih =>
    obtain ⟨b, y⟩ := q
    obtain ⟨h1, h2⟩ := List.pairwise_cons.1 h
    simp only [putE]
    by_cases e : eqb k b = true
    · simp only [e, if_true]
      refine List.pairwise_cons.2 ⟨fun p hp => ?_, h2⟩
      show eqb k p.1 = false
      rw [E.left e]; exact h1 p hp
    · simp only [e]
      refine List.pairwise_cons.2 ⟨fun p hp => ?_, ih h2⟩
      rcases mem_put E hp with rfl | hp
      · show eqb b k = false
        rw [E.comm]; simpa using e
      · exact h1 p hp
theorem KD.find {m : List (κ × β)} (h : KD eqb m) {k : κ} {x : β} (hm : (k, x) ∈ m) : findE eqb k m = some x := by
  induction m with
  | nil => cases hm
  | cons q m ih =>
    obtain ⟨b, y⟩ := q
    obtain ⟨h1, h2⟩ := List.pairwise_cons.1 h
    rcases List.mem_cons.1 hm with e | hm
    · injection e with e1 e2; subst e1; subst e2
      simp [findE, E.refl]
    · have := h1 _ hm
      simp only at this
      simp [findE, E.comm k b, this, ih h2 hm]
theorem find_mem {m : List (κ × β)} {k : κ} {x : β} (h : findE eqb k m = some x) : ∃ p ∈ m, eqb k p.1 = true ∧ p.2 = x := by
  induction m with
  | nil => cases h
  | cons q m ih =>
    obtain ⟨b, y⟩ := q
    simp only [findE] at h
    by_cases e : eqb k b = true
    · simp [e] at h; exact ⟨(b, y), .head _, e, h⟩
    · simp [e] at h
      obtain ⟨p, hp, h⟩ := ih h
      exact ⟨p, .tail _ hp, h⟩
theorem gm_kd (key : Nat → κ) (st : Nat → UInt64) (o : List Nat) : KD eqb (gm eqb key st o) ∧ (∀ p ∈ gm eqb key st o, ∃ i ∈ o, p.1 = key i) ∧ (∀ i ∈ o, ∃ p ∈ gm eqb key st o, eqb (key i) p.1 = true) := by
  have : ∀ (o1 o : List Nat), (KD eqb (gm eqb key st o) ∧ (∀ p ∈ gm eqb key st o, ∃ i ∈ o, p.1 = key i) ∧ (∀ i ∈ o, ∃ p ∈ gm eqb key st o, eqb (key i) p.1 = true)) → (KD eqb (gm eqb key st (o ++ o1)) ∧ (∀ p ∈ gm eqb key st (o ++ o1), ∃ i ∈ o ++ o1, p.1 = key i) ∧ (∀ i ∈ o ++ o1, ∃ p ∈ gm eqb key st (o ++ o1), eqb (key i) p.1 = true)) := by
    intro o1
    induction o1 with
    | nil => intro o h; simpa using h
    | cons j o1 ih =>
      intro o ⟨h1, h2, h3⟩
      rw [show o ++ j :: o1 = (o ++ [j]) ++ o1 by simp]
      refine ih (o ++ [j]) ⟨?_, fun p hp => ?_, fun i hi => ?_⟩
      · rw [gm_snoc]; exact KD.put E h1
      · rw [gm_snoc] at hp
        rcases mem_put E hp with rfl | hp
        · exact ⟨j, by simp, rfl⟩
        · obtain ⟨i, hi, e⟩ := h2 p hp
          exact ⟨i, by simp [hi], e⟩
      · rw [gm_snoc]
        cases hc : eqb (key i) (key j) with
        | true =>
          obtain ⟨p, hp, h4, _⟩ := find_mem E (find_put_same E (key j) ((findE eqb (key j) (gm eqb key st o)).getD 0 + st j) (gm eqb key st o))
          exact ⟨p, hp, E.trans _ _ _ hc h4⟩
        | false =>
          rcases List.mem_append.1 hi with hi | hi
          · obtain ⟨p, hp, h4⟩ := h3 i hi
            have h5 := KD.find E h1 (k := p.1) (x := p.2) hp
            have h6 : findE eqb (key i) (gm eqb key st o) = some p.2 := by rw [find_congr E h4]; exact h5
            rw [← find_put_other E hc ((findE eqb (key j) (gm eqb key st o)).getD 0 + st j)] at h6
            obtain ⟨q, hq, h7, _⟩ := find_mem E h6
            exact ⟨q, hq, h7⟩
          · simp at hi; subst hi
            rw [E.refl] at hc; cases hc
  simpa using this o [] ⟨by simp [gm, KD], by simp [gm], by simp⟩
end
end Go.Eng
end
section
namespace Go.Eng
set_option linter.unusedSimpArgs false
set_option linter.unusedVariables false
def eqI (a b : Int) : Bool := a == b
def eqT (a b : Bool) : Bool := a == b
def eqU (_ _ : Unit) : Bool := true
theorem eqvI : Eqv eqI := eqv_beq
theorem eqvT : Eqv eqT := eqv_beq
theorem eqvU : Eqv eqU := eqv_unit
abbrev Fst := List (Int × (Nat → UInt8))
def d0 : Int × (Nat → UInt8) := (0, fun _ => 0)
def kF (F : Fst) (i : Nat) : Int := (kvAt d0 F i).1
def vF (F : Fst) (i : Nat) : Nat → UInt8 := (kvAt d0 F i).2
def sF (s : Nat → UInt64) (F : Fst) (i : Nat) : UInt64 := s (kF F i).toNat
def firC (l : Fst) : Cont := mapC int rowV l
def agaC (l : List (Int × Unit)) : Cont := mapC int ev0 l
def bitC (l : List (Bool × UInt64)) : Cont := mapC Value.bool u64 l
def uniC (l : List (Unit × UInt64)) : Cont := mapC ev0 u64 l
def rowC (l : List ((Nat → UInt8) × UInt64)) : Cont := mapC rowV u64 l
def greatU (p a : UInt64) : Bool := decide (2 * a.toNat < 3 * p.toNat)
def moreU (p a : UInt64) : Bool := decide (a.toNat < 3 * p.toNat)
def forN (s : Nat → UInt64) (F : Fst) (v : Nat → UInt8) : Nat := sumN (fun i => if sR (vF F i) v = true then (sF s F i).toNat else 0) F.length
def anyN (s : Nat → UInt64) (F : Fst) : Nat := sumN (fun i => (sF s F i).toNat) F.length
def forV (s : Nat → UInt64) (F : Fst) (v : Nat → UInt8) : UInt64 := UInt64.ofNat (forN s F v)
def anyV (s : Nat → UInt64) (F : Fst) : UInt64 := UInt64.ofNat (anyN s F)
def bitM (s : Nat → UInt64) (F : Fst) (v : Nat → UInt8) (o : List Nat) := gm eqT (fun i => sR (vF F i) v) (sF s F) o
def uniM (s : Nat → UInt64) (F : Fst) (o : List Nat) := gm eqU (fun _ => ()) (sF s F) o
def rowM (s : Nat → UInt64) (F : Fst) (o : List Nat) := gm sR (vF F) (sF s F) o
structure VOk (n : Nat) (s : Nat → UInt64) (F : Fst) : Prop where
  good : n ≤ 40 ∧ sumU s n < 2 ^ 63
  key : ∀ i, i < F.length → 0 ≤ kF F i ∧ (kF F i).toNat < n
  inj : ∀ i j, i < F.length → j < F.length → kF F i = kF F j → i = j
theorem VOk.nil {n : Nat} {s : Nat → UInt64} (h : n ≤ 40 ∧ sumU s n < 2 ^ 63) : VOk n s [] := ⟨h, fun i hi => by simp at hi, fun i j hi => by simp at hi⟩
def voteE (n : Nat) (s : Nat → UInt64) (F : Fst) (who : Int) (v : Nat → UInt8) : Int :=
  if who < 0 ∨ (n : Int) ≤ who then 1 else if s who.toNat = 0 then 51 else match findE eqI who F with
  | none => 0
  | some w => if sR w v = true then 13 else 52
def voteF (n : Nat) (s : Nat → UInt64) (F : Fst) (who : Int) (v : Nat → UInt8) : Fst := if voteE n s F who v = 0 then putE eqI who v F else F
def voteA (n : Nat) (s : Nat → UInt64) (F : Fst) (A : List (Int × Unit)) (who : Int) (v : Nat → UInt8) : List (Int × Unit) := if voteE n s F who v = 52 then putE eqI who () A else A
theorem put_none {α β : Type} {eqb : α → α → Bool} {k : α} {x : β} : ∀ {m : List (α × β)}, findE eqb k m = none → putE eqb k x m = m ++ [(k, x)]
  | [], _ => rfl
  | (h, y) :: m, e => by
    simp only [findE] at e
    by_cases c : eqb k h = true
    · simp [c] at e
    · simp [c] at e
      simp [putE, c, put_none e]
theorem find_none {α β : Type} {eqb : α → α → Bool} {k : α} : ∀ {m : List (α × β)}, findE eqb k m = none → ∀ p ∈ m, eqb k p.1 = false
  | [], _, p, hp => by cases hp
  | (h, y) :: m, e, p, hp => by
    simp only [findE] at e
    by_cases c : eqb k h = true
    · simp [c] at e
    · simp [c] at e
      rcases List.mem_cons.1 hp with rfl | hp
      · simpa using c
      · exact find_none e p hp
theorem at_mem {α β : Type} {d : α × β} {l : List (α × β)} {i : Nat} (h : i < l.length) : kvAt d l i ∈ l := by
  unfold kvAt; rw [List.getD_eq_getElem?_getD, List.getElem?_eq_getElem h]; exact List.getElem_mem h
theorem mem_at {α β : Type} (d : α × β) {l : List (α × β)} {p : α × β} (h : p ∈ l) : ∃ i, i < l.length ∧ kvAt d l i = p := by
  obtain ⟨i, hi, e⟩ := List.getElem_of_mem h
  exact ⟨i, hi, by unfold kvAt; rw [List.getD_eq_getElem?_getD, List.getElem?_eq_getElem hi]; exact e⟩
theorem at_app {α β : Type} {d : α × β} {l r : List (α × β)} {i : Nat} (h : i < l.length) : kvAt d (l ++ r) i = kvAt d l i := by
  unfold kvAt; rw [List.getD_eq_getElem?_getD, List.getD_eq_getElem?_getD, List.getElem?_append_left h]
theorem at_end {α β : Type} {d x : α × β} {l : List (α × β)} : kvAt d (l ++ [x]) l.length = x := by
  unfold kvAt; rw [List.getD_eq_getElem?_getD]; simp
section
variable {n : Nat} {s : Nat → UInt64} {F : Fst}
theorem voteF_new {who : Int} {v : Nat → UInt8} (h : voteE n s F who v = 0) : voteF n s F who v = F ++ [(who, v)] ∧ 0 ≤ who ∧ who.toNat < n ∧ s who.toNat ≠ 0 ∧ findE eqI who F = none := by
  have hF : voteF n s F who v = putE eqI who v F := if_pos h
  unfold voteE at h
  split at h
  · cases h
  split at h
  · cases h
  split at h
  · rename_i h1 h2 _ h3
    exact ⟨hF.trans (put_none h3), by omega, by omega, h2, h3⟩
  · split at h <;> cases h
theorem VOk.vote (h : VOk n s F) (who : Int) (v : Nat → UInt8) : VOk n s (voteF n s F who v) := by
  by_cases e : voteE n s F who v = 0
  · obtain ⟨e1, h1, h2, h3, h4⟩ := voteF_new e
    rw [e1]
    have hne : ∀ i, i < F.length → kF F i ≠ who := fun i hi c => by
      have := find_none h4 _ (at_mem (d := d0) hi)
      have h5 : (kvAt d0 F i).1 = who := c
      rw [h5] at this
      simp [eqI] at this
    have hk : ∀ i, i < F.length → kF (F ++ [(who, v)]) i = kF F i := fun i hi => by unfold kF; rw [at_app hi]
    have hl : kF (F ++ [(who, v)]) F.length = who := by unfold kF; rw [at_end]
    refine ⟨h.good, fun i hi => ?_, fun i j hi hj => ?_⟩
    · simp at hi
      by_cases c : i = F.length
      · subst c; rw [hl]; exact ⟨h1, h2⟩
      · rw [hk i (by omega)]; exact h.key i (by omega)
    · simp at hi hj
      by_cases c : i = F.length
      · by_cases c2 : j = F.length
        · omega
        · rw [c, hl, hk j (by omega)]; exact fun x => absurd x.symm (hne j (by omega))
      · by_cases c2 : j = F.length
        · rw [c2, hl, hk i (by omega)]; exact fun x => absurd x (hne i (by omega))
        · rw [hk i (by omega), hk j (by omega)]; exact h.inj i j (by omega) (by omega)
  · have : voteF n s F who v = F := if_neg e
    rw [this]; exact h
theorem lsum_map {f : Nat → Nat} {g : Nat → Nat} : ∀ l : List Nat, lsum f (l.map g) = lsum (fun i => f (g i)) l
  | [] => rfl
  | i :: l => by simp only [List.map_cons, lsum, lsum_map l]
theorem lsum_range (f : Nat → Nat) (n : Nat) : lsum f (List.range n) = sumN f n := lsum_eq f n _ List.nodup_range fun x => List.mem_range
theorem VOk.any_le (h : VOk n s F) : anyN s F ≤ sumU s n := by
  have h1 : lsum (fun k => (s k).toNat) ((List.range F.length).map fun i => (kF F i).toNat) ≤ sumN (fun k => (s k).toNat) n := by
    refine lsum_le _ n _ (List.pairwise_map.2 (List.Pairwise.imp_of_mem (fun {a b} ha hb hab => ?_) (List.nodup_range (n := F.length)))) fun x hx => ?_
    · have ha' := List.mem_range.1 ha; have hb' := List.mem_range.1 hb
      intro e
      have := h.key a ha'; have := h.key b hb'
      exact hab (h.inj a b ha' hb' (by omega))
    · obtain ⟨i, hi, rfl⟩ := List.mem_map.1 hx
      exact (h.key i (List.mem_range.1 hi)).2
  rw [lsum_map, lsum_range] at h1
  rw [sumU_N]; exact h1
theorem for_le_any (v : Nat → UInt8) : forN s F v ≤ anyN s F := sumN_le _ fun i _ => by split <;> omega
theorem VOk.lt (h : VOk n s F) : anyN s F < 2 ^ 63 := Nat.lt_of_le_of_lt h.any_le h.good.2
theorem VOk.forV (h : VOk n s F) (v : Nat → UInt8) : (forV s F v).toNat = forN s F v := by
  have := for_le_any (s := s) (F := F) v; have := h.lt
  unfold Go.Eng.forV
  rw [UInt64.toNat_ofNat']; exact Nat.mod_eq_of_lt (by omega)
theorem VOk.anyV (h : VOk n s F) : (anyV s F).toNat = anyN s F := by
  have := h.lt
  unfold Go.Eng.anyV
  rw [UInt64.toNat_ofNat']; exact Nat.mod_eq_of_lt (by omega)
theorem VOk.all (h : VOk n s F) : (totN s n).a.toNat = sumU s n := by
  have hv := totN_val s n (by have := h.good.1; omega)
  rw [N4.a_of_lt (by have := h.good.2; omega), hv]
theorem lsum_ord {f : Nat → Nat} {o : List Nat} {m : Nat} (h : OrdA m o) : lsum f o = sumN f m := lsum_eq f m o h.nd h.mem
theorem for_bit (h : VOk n s F) (v : Nat → UInt8) {o : List Nat} (ho : OrdA F.length o) : (findE eqT true (bitM s F v o)).getD 0 = Go.Eng.forV s F v := by
  apply UInt64.toNat_inj.1
  rw [h.forV]
  unfold bitM
  rw [gm_find eqvT, lsum_ord ho, show (fun i => if eqT true (sR (vF F i) v) = true then (sF s F i).toNat else 0) = (fun i => if sR (vF F i) v = true then (sF s F i).toNat else 0) from funext fun i => by cases sR (vF F i) v <;> rfl]
  exact Nat.mod_eq_of_lt (Nat.lt_of_le_of_lt (for_le_any (s := s) (F := F) v) (Nat.lt_trans h.lt (by decide)))
theorem any_uni (h : VOk n s F) {o : List Nat} (ho : OrdA F.length o) : (findE eqU () (uniM s F o)).getD 0 = Go.Eng.anyV s F := by
  apply UInt64.toNat_inj.1
  rw [h.anyV]
  unfold uniM
  rw [gm_find eqvU, lsum_ord ho]
  exact Nat.mod_eq_of_lt (by have := h.lt; unfold anyN at this; simp only [eqU, if_true]; omega)
theorem row_find (h : VOk n s F) (v : Nat → UInt8) {o : List Nat} (ho : OrdA F.length o) : (findE sR v (rowM s F o)).getD 0 = Go.Eng.forV s F v := by
  apply UInt64.toNat_inj.1
  rw [h.forV]
  unfold rowM
  rw [gm_find eqv_row, lsum_ord ho, show (fun i => if sR v (vF F i) = true then (sF s F i).toNat else 0) = (fun i => if sR (vF F i) v = true then (sF s F i).toNat else 0) from funext fun i => by rw [sR_comm]]
  exact Nat.mod_eq_of_lt (Nat.lt_of_le_of_lt (for_le_any (s := s) (F := F) v) (Nat.lt_trans h.lt (by decide)))
def dR : (Nat → UInt8) × UInt64 := (fun _ => 0, 0)
theorem row_at (h : VOk n s F) {o : List Nat} (ho : OrdA F.length o) {j : Nat} (hj : j < (rowM s F o).length) :
    (kvAt dR (rowM s F o) j).2 = Go.Eng.forV s F (kvAt dR (rowM s F o) j).1 ∧ ∃ i, i < F.length ∧ (kvAt dR (rowM s F o) j).1 = vF F i := by
  obtain ⟨h1, h2, _⟩ := gm_kd eqv_row (vF F) (sF s F) o
  have hm := at_mem (d := dR) hj
  have h3 := KD.find eqv_row h1 (k := (kvAt dR (rowM s F o) j).1) (x := (kvAt dR (rowM s F o) j).2) hm
  have h4 := row_find h (kvAt dR (rowM s F o) j).1 ho
  have h5 : findE sR (kvAt dR (rowM s F o) j).1 (rowM s F o) = some (kvAt dR (rowM s F o) j).2 := h3
  rw [h5] at h4
  obtain ⟨i, hi, e⟩ := h2 _ hm
  exact ⟨h4, i, ho.lt i hi, e⟩
theorem row_cov {o : List Nat} (ho : OrdA F.length o) {i : Nat} (hi : i < F.length) : ∃ j, j < (rowM s F o).length ∧ sR (vF F i) (kvAt dR (rowM s F o) j).1 = true := by
  obtain ⟨_, _, h3⟩ := gm_kd eqv_row (vF F) (sF s F) o
  obtain ⟨p, hp, e⟩ := h3 i ((ho.mem i).2 hi)
  obtain ⟨j, hj, rfl⟩ := mem_at dR hp
  exact ⟨j, hj, e⟩
def qB (s : Nat → UInt64) (F : Fst) (a : UInt64) : Bool := (List.range F.length).any fun i => greatU (Go.Eng.forV s F (vF F i)) a
def qI (s : Nat → UInt64) (F : Fst) (a : UInt64) : Nat := ((List.range F.length).find? fun i => greatU (Go.Eng.forV s F (vF F i)) a).getD 0
def qV (s : Nat → UInt64) (F : Fst) (a : UInt64) : Nat → UInt8 := if qB s F a = true then vF F (qI s F a) else fun _ => 0
theorem forN_congr {v w : Nat → UInt8} (h : sR v w = true) : forN s F v = forN s F w := sumN_congr _ fun i _ => by
  rw [sR_comm, sR_comm _ w, eqv_row.left h]
theorem forV_congr {v w : Nat → UInt8} (h : sR v w = true) : Go.Eng.forV s F v = Go.Eng.forV s F w := by unfold Go.Eng.forV; rw [forN_congr h]
theorem two_le {v w : Nat → UInt8} (h : sR v w = false) : forN s F v + forN s F w ≤ anyN s F := by
  unfold forN anyN
  rw [← sumN_add]
  refine sumN_le _ fun i _ => ?_
  by_cases a : sR (vF F i) v = true
  · by_cases b : sR (vF F i) w = true
    · rw [sR_trans (sR_symm a) b] at h; cases h
    · simp [a, b]
  · by_cases b : sR (vF F i) w = true <;> simp [a, b]
theorem great_one (h : VOk n s F) {v w : Nat → UInt8} (h1 : greatU (Go.Eng.forV s F v) (totN s n).a = true) (h2 : greatU (Go.Eng.forV s F w) (totN s n).a = true) : sR v w = true := by
  cases hc : sR v w with
  | true => rfl
  | false =>
    have h3 := two_le (s := s) (F := F) hc
    unfold greatU at h1 h2
    have h1 := of_decide_eq_true h1; have h2 := of_decide_eq_true h2
    rw [h.forV, h.all] at h1 h2
    have := h.any_le
    omega
theorem qB_iff {a : UInt64} : qB s F a = true ↔ ∃ i, i < F.length ∧ greatU (Go.Eng.forV s F (vF F i)) a = true := by
  unfold qB
  rw [List.any_eq_true]
  exact ⟨fun ⟨i, h1, h2⟩ => ⟨i, List.mem_range.1 h1, h2⟩, fun ⟨i, h1, h2⟩ => ⟨i, List.mem_range.2 h1, h2⟩⟩
theorem qI_ok {a : UInt64} (h : qB s F a = true) : qI s F a < F.length ∧ greatU (Go.Eng.forV s F (vF F (qI s F a))) a = true := by
  obtain ⟨i, h1, h2⟩ := qB_iff.1 h
  unfold qI
  cases hf : (List.range F.length).find? (fun i => greatU (Go.Eng.forV s F (vF F i)) a) with
  | none => exact absurd h2 (by have := List.find?_eq_none.1 hf i (List.mem_range.2 h1); simpa using this)
  | some j => exact ⟨List.mem_range.1 (List.mem_of_find?_eq_some hf), List.find?_some (p := fun i => greatU (Go.Eng.forV s F (vF F i)) a) hf⟩
theorem q_yes (h : VOk n s F) {i : Nat} (hi : i < F.length) (hg : greatU (Go.Eng.forV s F (vF F i)) (totN s n).a = true) : qB s F (totN s n).a = true ∧ sR (vF F i) (qV s F (totN s n).a) = true := by
  have hq := qB_iff.2 ⟨i, hi, hg⟩
  refine ⟨hq, ?_⟩
  unfold qV; rw [if_pos hq]
  exact great_one h hg (qI_ok hq).2
theorem q_great (h : qB s F (totN s n).a = true) : greatU (Go.Eng.forV s F (qV s F (totN s n).a)) (totN s n).a = true := by
  have := (qI_ok h).2
  unfold qV; rw [if_pos h]; exact this
theorem q_no {a : UInt64} (h : ∀ i, i < F.length → greatU (Go.Eng.forV s F (vF F i)) a = false) : qB s F a = false ∧ qV s F a = fun _ => 0 := by
  have hq : qB s F a = false := by
    cases hc : qB s F a with
    | false => rfl
    | true => obtain ⟨i, h1, h2⟩ := qB_iff.1 hc; rw [h i h1] at h2; cases h2
  exact ⟨hq, by unfold qV; rw [if_neg (by rw [hq]; decide)]⟩
end
end Go.Eng
namespace Go.Eng
theorem VOk.len {n : Nat} {s : Nat → UInt64} {F : Fst} (h : VOk n s F) : F.length ≤ 40 := by
  have h1 : OrdN n ((List.range F.length).map fun i => (kF F i).toNat) := by
    refine ⟨List.pairwise_map.2 (List.Pairwise.imp_of_mem (fun {a b} ha hb hab => ?_) (List.nodup_range (n := F.length))), fun x hx => ?_⟩
    · have ha' := List.mem_range.1 ha; have hb' := List.mem_range.1 hb
      intro e
      have := h.key a ha'; have := h.key b hb'
      exact hab (h.inj a b ha' hb' (by omega))
    · obtain ⟨i, hi, rfl⟩ := List.mem_map.1 hx
      exact (h.key i (List.mem_range.1 hi)).2
  have h2 := nodup_len h1
  have := h.good.1
  simp at h2; omega
theorem great_val {p a : UInt64} : decide (cmp4 (mul8 (smallN p) (smallN 3)).lo (mul8 (smallN a) (smallN 2)).lo > 0) = greatU p a := by
  have hp := p.toNat_lt; have ha := a.toNat_lt
  have e : ∀ x y : UInt64, (mul8 (smallN x) (smallN y)).lo.val = x.toNat * y.toNat := fun x y => by
    have h1 := mul8_val (smallN x) (smallN y)
    rw [smallN_val, smallN_val] at h1
    have hx := x.toNat_lt; have hy := y.toNat_lt
    have hm : x.toNat * y.toNat < 2 ^ 128 := Nat.lt_of_lt_of_le (Nat.mul_lt_mul'' hx hy) (by decide)
    have hl := (mul8 (smallN x) (smallN y)).lo.val_lt
    have hv : (mul8 (smallN x) (smallN y)).val = (mul8 (smallN x) (smallN y)).lo.val + 2 ^ 256 * (mul8 (smallN x) (smallN y)).hi.val := rfl
    have hz : (mul8 (smallN x) (smallN y)).hi.val = 0 := by
      rcases Nat.eq_zero_or_pos (mul8 (smallN x) (smallN y)).hi.val with h0 | h0
      · exact h0
      · have := Nat.mul_le_mul_left (2 ^ 256) h0; omega
    omega
  unfold greatU
  rw [cmp4_eq, e, e]
  have e3 : (3 : UInt64).toNat = 3 := rfl
  have e2 : (2 : UInt64).toNat = 2 := rfl
  rw [e3, e2]
  have : (ord (p.toNat * 3) (a.toNat * 2) > 0) ↔ 2 * a.toNat < 3 * p.toNat := by
    unfold ord; split <;> (try split) <;> omega
  exact decide_eq_decide.2 this
theorem more_val {p a : UInt64} : decide (cmp4 (mul8 (smallN p) (smallN 3)).lo (smallN a) > 0) = moreU p a := by
  have hp := p.toNat_lt; have ha := a.toNat_lt
  have e : ∀ x y : UInt64, (mul8 (smallN x) (smallN y)).lo.val = x.toNat * y.toNat := fun x y => by
    have h1 := mul8_val (smallN x) (smallN y)
    rw [smallN_val, smallN_val] at h1
    have hx := x.toNat_lt; have hy := y.toNat_lt
    have hm : x.toNat * y.toNat < 2 ^ 128 := Nat.lt_of_lt_of_le (Nat.mul_lt_mul'' hx hy) (by decide)
    have hl := (mul8 (smallN x) (smallN y)).lo.val_lt
    have hv : (mul8 (smallN x) (smallN y)).val = (mul8 (smallN x) (smallN y)).lo.val + 2 ^ 256 * (mul8 (smallN x) (smallN y)).hi.val := rfl
    have hz : (mul8 (smallN x) (smallN y)).hi.val = 0 := by
      rcases Nat.eq_zero_or_pos (mul8 (smallN x) (smallN y)).hi.val with h0 | h0
      · exact h0
      · have := Nat.mul_le_mul_left (2 ^ 256) h0; omega
    omega
  unfold moreU
  rw [cmp4_eq, e, smallN_val, show (3 : UInt64).toNat = 3 from rfl]
  have : (ord (p.toNat * 3) a.toNat > 0) ↔ a.toNat < 3 * p.toNat := by
    unfold ord; split <;> (try split) <;> omega
  exact decide_eq_decide.2 this
theorem q_end_yes {n : Nat} {s : Nat → UInt64} {F : Fst} (h : VOk n s F) {o : List Nat} (ho : OrdA F.length o) {j : Nat} (hj : j < (rowM s F o).length) (hg : greatU (kvAt dR (rowM s F o) j).2 (totN s n).a = true) :
    Value.tuple #[rowV (kvAt dR (rowM s F o) j).1, .bool true] = .tuple #[rowV (qV s F (totN s n).a), .bool (qB s F (totN s n).a)] := by
  obtain ⟨h1, i, hi, e⟩ := row_at h ho hj
  rw [h1, e] at hg
  obtain ⟨h2, h3⟩ := q_yes h hi hg
  rw [e, rowV_eq h3, h2]
theorem q_end_no {n : Nat} {s : Nat → UInt64} {F : Fst} (h : VOk n s F) {o o2 : List Nat} (ho : OrdA F.length o) (hu : unseen o2 (rowM s F o).length = false) (hg : ∀ j, j ∈ o2 → greatU (kvAt dR (rowM s F o) j).2 (totN s n).a = false) :
    Value.tuple #[rowV (fun _ => 0), .bool false] = .tuple #[rowV (qV s F (totN s n).a), .bool (qB s F (totN s n).a)] := by
  obtain ⟨h1, h2⟩ := q_no (s := s) (F := F) (a := (totN s n).a) fun i hi => by
    obtain ⟨j, hj, e⟩ := row_cov (s := s) ho hi
    have h3 := hg j (by simpa using unseen_f hu j hj)
    rw [(row_at h ho hj).1, ← forV_congr e] at h3
    exact h3
  rw [h1, h2]
end Go.Eng
namespace Go.Eng
section
variable {n : Nat} {s : Nat → UInt64} {F : Fst} {A : List (Int × Unit)} {who : Int} {v : Nat → UInt8}
theorem vote_res {e : Int} (h : voteE n s F who v = e) (h0 : e ≠ 0) (h52 : e ≠ 52) : voteF n s F who v = F ∧ voteA n s F A who v = A :=
  ⟨if_neg (by rw [h]; exact h0), if_neg (by rw [h]; exact h52)⟩
theorem vote_1 (h : who < 0 ∨ (n : Int) ≤ who) : voteE n s F who v = 1 := if_pos h
theorem vote_51 (h : ¬ (who < 0 ∨ (n : Int) ≤ who)) (h0 : (s who.toNat == 0) = true) : voteE n s F who v = 51 := by
  unfold voteE; rw [if_neg h, if_pos (eq_of_beq h0)]
theorem vote_0 (h : ¬ (who < 0 ∨ (n : Int) ≤ who)) (h0 : (s who.toNat == 0) = false) (hf : (findE eqI who F).isSome = false) : voteE n s F who v = 0 := by
  unfold voteE; rw [if_neg h, if_neg (by simpa using h0)]
  cases hc : findE eqI who F with
  | none => rfl
  | some w => rw [hc] at hf; cases hf
theorem vote_13 (h : ¬ (who < 0 ∨ (n : Int) ≤ who)) (h0 : (s who.toNat == 0) = false) (hf : (findE eqI who F).isSome = true) (hs : sR ((findE eqI who F).getD fun _ => 0) v = true) : voteE n s F who v = 13 := by
  unfold voteE; rw [if_neg h, if_neg (by simpa using h0)]
  cases hc : findE eqI who F with
  | none => rw [hc] at hf; cases hf
  | some w => rw [hc] at hs; exact if_pos hs
theorem vote_52 (h : ¬ (who < 0 ∨ (n : Int) ≤ who)) (h0 : (s who.toNat == 0) = false) (hf : (findE eqI who F).isSome = true) (hs : sR ((findE eqI who F).getD fun _ => 0) v = false) : voteE n s F who v = 52 := by
  unfold voteE; rw [if_neg h, if_neg (by simpa using h0)]
  cases hc : findE eqI who F with
  | none => rw [hc] at hf; cases hf
  | some w => rw [hc] at hs; exact if_neg (by rw [show sR w v = false from hs]; decide)
theorem voteF_0 (h : voteE n s F who v = 0) : voteF n s F who v = putE eqI who v F ∧ voteA n s F A who v = A := ⟨if_pos h, if_neg (by rw [h]; decide)⟩
theorem voteA_52 (h : voteE n s F who v = 52) : voteF n s F who v = F ∧ voteA n s F A who v = putE eqI who () A := ⟨if_neg (by rw [h]; decide), if_pos h⟩
end
end Go.Eng
namespace Go.Eng
def oneR (x : UInt8) : Nat → UInt8 := fun i => if i = 0 then x else 0
def urowL (l : List UInt64) : Nat → UInt64 := fun k => l.getD k 0
theorem urowL_get (l : List UInt64) : ∀ j v, (tabF l.length fun k => u64 (urowL l k)).get j = some v → (Cont.lit (l.map u64)).get j = some v := fun j v hj => by
  by_cases h : j < l.length
  · rw [tabF_in h] at hj
    injection hj with hj; subst hj
    show (l.map u64)[j]? = _
    simp [urowL, h]
  · rw [tabF_out h] at hj; cases hj
def okB (n : Nat) (s : Nat → UInt64) (F : Fst) : Bool := decide (n ≤ 40) && decide (sumU s n < 2 ^ 63) && (List.range F.length).all (fun i => decide (0 ≤ kF F i) && decide ((kF F i).toNat < n)) &&
  (List.range F.length).all (fun i => (List.range F.length).all fun j => !decide (kF F i = kF F j) || decide (i = j))
theorem VOk.of {n : Nat} {s : Nat → UInt64} {F : Fst} (h : okB n s F = true) : VOk n s F := by
  simp only [okB, Bool.and_eq_true, List.all_eq_true, decide_eq_true_eq, Bool.or_eq_true, Bool.not_eq_true', decide_eq_false_iff_not] at h
  obtain ⟨⟨⟨h1, h2⟩, h3⟩, h4⟩ := h
  exact ⟨⟨h1, h2⟩, fun i hi => h3 i (List.mem_range.2 hi), fun i j hi hj e => by
    rcases h4 i (List.mem_range.2 hi) j (List.mem_range.2 hj) with h5 | h5
    · exact absurd e h5
    · exact h5⟩
end Go.Eng
end
section
namespace Go.Eng
set_option linter.unusedVariables false
set_option linter.unusedSimpArgs false
set_option maxRecDepth 100000
structure VtR where
  w : Int
  v : Nat → UInt8
instance : Inhabited VtR := ⟨⟨0, fun _ => 0⟩⟩
def rowL (f : Nat → UInt8) : List Value := (List.range 32).map fun k => u8 (f k)
def vtC (x : VtR) : List Value := int x.w :: rowL x.v
theorem vtC_ok (x : VtR) : (vtC x).length = 33 ∧ (vtC x).all Value.oneCell' = true := ⟨rfl, by
  show (true && (rowL x.v).all Value.oneCell') = true
  rw [Bool.true_and, List.all_eq_true]
  intro v hv
  obtain ⟨k, _, rfl⟩ := List.mem_map.1 hv
  rfl⟩
def tabVV (n : Nat) (f : Nat → VtR) : Cont := .tab n 33 fun k => vtC (f k)
section
open Go.RowKit Go.WideShapes Go.ChangeShapes Go.ChangeAt Go.Deep
variable {H : Type} {enc : TypeId × Value → H} {P : Program}
theorem row_cells {W : World} {base : Nat} {sp : Nat → Bool} {held : Bool} {t e : TypeId} {l : List Value} {fuel : Nat} {z : DataW H × List MemPlace} (ht : P.underlying t = some (.array 32 e)) (he : P.underlying e = some (.int .u8)) (hc : P.cellsOf e = 1)
    (hl : l.length = 32) (hf : DataW.trod enc P W base sp held fuel t l = some z) : ∃ f : Nat → UInt8, l = rowL f := by
  obtain ⟨xs, m, _, _, _, hxl, hel⟩ := DataW.trod_array ht hf
  have hV : ∀ i, i < 32 → ∃ x : UInt8, l[i]? = some (u8 x) := fun i hi => by
    have hE := hel i hi
    rw [hc, Nat.mul_one, List.getElem?_eq_getElem (by omega)] at hE
    obtain ⟨z, e1, _, w0⟩ := DataW.trod_int he hE
    obtain ⟨x, hx⟩ := u8_of w0
    refine ⟨x, ?_⟩
    rw [← hx]
    have e4 : ((l.drop i).take 1)[0]? = some (Value.int .u8 z) := by rw [e1]; rfl
    rw [List.getElem?_take, if_pos (by decide), List.getElem?_drop] at e4
    exact e4
  obtain ⟨f, hfV⟩ := choose_lt (α := UInt8) (p := fun i x => l[i]? = some (u8 x)) hV
  refine ⟨f, ?_⟩
  apply List.ext_getElem?
  intro i
  by_cases hi : i < 32
  · rw [hfV i hi]; unfold rowL; rw [map_get u8 f 32 i hi]
  · rw [List.getElem?_eq_none (by omega), List.getElem?_eq_none (by simp [rowL]; omega)]
theorem open_row {r : Reach} {b0 : Nat} {W : World} {base : Nat} {sp : Nat → Bool} {held : Bool} {t e : TypeId} {v : Value} {d : DataW H} {ps : List MemPlace} (ht : P.underlying t = some (.array 32 e)) (he : P.underlying e = some (.int .u8))
    (hc : P.cellsOf e = 1) (hct : P.cellsOf t = 32) (hval : Value.okWide P W r b0 t v) (hd : DataW.Trod enc P W base sp held t v d ps) : ∃ f : Nat → UInt8, v = rowV f := by
  obtain ⟨cs, rfl, hsz, _⟩ : ∃ cs, v = .agg cs ∧ cs.size = P.cellsOf t ∧ Row.okWide P W r b0 t cs := by
    simpa [Value.okWide, ht] using hval
  obtain ⟨l⟩ := cs
  obtain ⟨fuel, hf⟩ := hd
  have hl : l.length = 32 := by rw [← hct]; exact hsz
  obtain ⟨f, rfl⟩ := row_cells ht he hc hl (hf : DataW.trod enc P W base sp held fuel t l = some _)
  exact ⟨f, rfl⟩
def vtB (P : Program) (e i a : TypeId) : Bool := match P.underlying e with
  | some (.struct fs) => match fs.toList with
    | [f0, f1] => (Nat.beq f0.type i && Nat.beq f0.offset 0) && (Nat.beq f1.type a && Nat.beq f1.offset 1)
    | _ => false
  | _ => false
theorem vtB_get {P : Program} {e i a : TypeId} (h : vtB P e i a = true) : ∃ f0 f1 : Field, P.underlying e = some (.struct #[f0, f1]) ∧ (f0.type = i ∧ f0.offset = 0) ∧ (f1.type = a ∧ f1.offset = 1) := by
  unfold vtB at h
  split at h
  · rename_i fs hf
    split at h
    · rename_i f0 f1 hl
      simp only [Bool.and_eq_true] at h
      obtain ⟨⟨a0, b0⟩, ⟨a1, b1⟩⟩ := h
      refine ⟨f0, f1, ?_, ⟨Nat.eq_of_beq_eq_true a0, Nat.eq_of_beq_eq_true b0⟩, ⟨Nat.eq_of_beq_eq_true a1, Nat.eq_of_beq_eq_true b1⟩⟩
      rw [hf]
      have : fs = #[f0, f1] := by cases fs; simp_all
      rw [this]
    · cases h
  · cases h
theorem open_vt {r : Reach} {b0 : Nat} {W : World} {base : Nat} {sp : Nat → Bool} {held : Bool} {t e i a u : TypeId} {v : Value} {d : DataW H} {ps : List MemPlace} (ht : P.underlying t = some (.slice e)) (he : vtB P e i a = true)
    (hi : P.underlying i = some (.int .i64)) (ha : P.underlying a = some (.array 32 u)) (hu : P.underlying u = some (.int .u8)) (ci : P.cellsOf i = 1) (ca : P.cellsOf a = 32) (cu : P.cellsOf u = 1) (ce : P.cellsOf e = 33)
    (hval : Value.okWide P W r b0 t v) (hd : DataW.Trod enc P W base sp held t v d ps) :
    (∃ ao c, v = .slice ao 0 c) ∨ ∃ (b o n c : Nat) (f : Nat → VtR), v = .slice (some ⟨b, o, none⟩) n c ∧ 0 < n ∧ n ≤ 9223372036854775807 ∧ Holds ⟨b, false, o, tabVV n f⟩ W := by
  obtain ⟨f0, f1, hst, g0, g1⟩ := vtB_get he
  exact open_sliceE vtC (sz := 33) (fun a => (vtC_ok a).1) (by decide) ht ce (fun n cs x hl h => by
    obtain ⟨xs, m, _, _, _, hlen, hf⟩ := DataW.trod_struct hst h
    obtain ⟨c0, cr, rfl⟩ : ∃ c0 cr, cs = c0 :: cr := by
      match cs, hl with
      | c0 :: cr, _ => exact ⟨c0, cr, rfl⟩
    obtain ⟨y0, y1, rfl⟩ : ∃ y0 y1, xs = [y0, y1] := by
      match xs, hlen with
      | [y0, y1], _ => exact ⟨y0, y1, rfl⟩
    have hcr : cr.length = 32 := by simpa using hl
    have k0 := hf 0 f0 rfl
    have k1 := hf 1 f1 rfl
    rw [g0.1, g0.2, ci] at k0
    rw [g1.1, g1.2, ca] at k1
    obtain ⟨x0, e0, _, _⟩ := DataW.trod_int hi k0
    simp at e0
    have e1 : ((c0 :: cr).drop 1).take 32 = cr := by simp; exact List.take_of_length_le (by omega)
    rw [e1] at k1
    obtain ⟨f, rfl⟩ := row_cells ha hu cu hcr k1
    exact ⟨⟨x0, f⟩, by rw [e0]; rfl⟩) hval hd
end
end Go.Eng
end
section
namespace Go.Eng
set_option linter.unusedSimpArgs false
set_option linter.unusedVariables false
section
variable {n : Nat} {s : Nat → UInt64} {F : Fst}
theorem forN_app (x : Int × (Nat → UInt8)) (v : Nat → UInt8) : forN s (F ++ [x]) v = forN s F v + if sR x.2 v = true then (s x.1.toNat).toNat else 0 := by
  unfold forN
  rw [List.length_append, show [x].length = 1 from rfl]
  simp only [sumN]
  have e : vF (F ++ [x]) F.length = x.2 := by unfold vF; rw [at_end]
  have e2 : sF s (F ++ [x]) F.length = s x.1.toNat := by unfold sF kF; rw [at_end]
  rw [e, e2]
  congr 1
  exact sumN_congr _ fun i hi => by
    have h1 : vF (F ++ [x]) i = vF F i := by unfold vF; rw [at_app hi]
    have h2 : sF s (F ++ [x]) i = sF s F i := by unfold sF kF; rw [at_app hi]
    rw [h1, h2]
theorem anyN_app (x : Int × (Nat → UInt8)) : anyN s (F ++ [x]) = anyN s F + (s x.1.toNat).toNat := by
  unfold anyN
  rw [List.length_append, show [x].length = 1 from rfl]
  simp only [sumN]
  have e2 : sF s (F ++ [x]) F.length = s x.1.toNat := by unfold sF kF; rw [at_end]
  rw [e2]
  congr 1
  exact sumN_congr _ fun i hi => by
    have h2 : sF s (F ++ [x]) i = sF s F i := by unfold sF kF; rw [at_app hi]
    rw [h2]
theorem vote_cases (who : Int) (w : Nat → UInt8) : voteF n s F who w = F ∨ (voteE n s F who w = 0 ∧ voteF n s F who w = F ++ [(who, w)]) := by
  by_cases e : voteE n s F who w = 0
  · exact .inr ⟨e, (voteF_new e).1⟩
  · exact .inl (if_neg e)
theorem grow_forN (who : Int) (w v : Nat → UInt8) : forN s F v ≤ forN s (voteF n s F who w) v := by
  rcases vote_cases (n := n) (s := s) (F := F) who w with h | ⟨_, h⟩
  · rw [h]; exact Nat.le_refl _
  · rw [h, forN_app]; omega
theorem grow_anyN (who : Int) (w : Nat → UInt8) : anyN s F ≤ anyN s (voteF n s F who w) := by
  rcases vote_cases (n := n) (s := s) (F := F) who w with h | ⟨_, h⟩
  · rw [h]; exact Nat.le_refl _
  · rw [h, anyN_app]; omega
structure Grew (n : Nat) (s : Nat → UInt64) (F G : Fst) : Prop where
  f : ∀ v, forN s F v ≤ forN s G v
  a : anyN s F ≤ anyN s G
theorem Grew.refl (F : Fst) : Grew n s F F := ⟨fun _ => Nat.le_refl _, Nat.le_refl _⟩
theorem Grew.vote {F0 : Fst} (h : Grew n s F0 F) (who : Int) (w : Nat → UInt8) : Grew n s F0 (voteF n s F who w) := ⟨fun v => Nat.le_trans (h.f v) (grow_forN who w v), Nat.le_trans h.a (grow_anyN who w)⟩
variable {G : Fst}
theorem Grew.any_le (h : Grew n s F G) (hF : VOk n s F) (hG : VOk n s G) : ¬ anyV s G < anyV s F := fun hc => by
  have := UInt64.lt_iff_toNat_lt.1 hc
  rw [hF.anyV, hG.anyV] at this
  have := h.a; omega
theorem Grew.more (h : Grew n s F G) (hF : VOk n s F) (hG : VOk n s G) {v : Nat → UInt8} {a : UInt64} (hm : moreU (forV s F v) a = true) : moreU (forV s G v) a = true := by
  unfold moreU at hm ⊢
  have := of_decide_eq_true hm
  rw [hF.forV] at this
  have := h.f v
  exact decide_eq_true (by rw [hG.forV]; omega)
theorem Grew.great (h : Grew n s F G) (hF : VOk n s F) (hG : VOk n s G) {v : Nat → UInt8} {a : UInt64} (hm : greatU (forV s F v) a = true) : greatU (forV s G v) a = true := by
  unfold greatU at hm ⊢
  have := of_decide_eq_true hm
  rw [hF.forV] at this
  have := h.f v
  exact decide_eq_true (by rw [hG.forV]; omega)
theorem for_in {v : Nat → UInt8} (h : 0 < forN s F v) : ∃ i, i < F.length ∧ sR (vF F i) v = true := by
  unfold forN at h
  have : ∀ m, 0 < sumN (fun i => if sR (vF F i) v = true then (sF s F i).toNat else 0) m → ∃ i, i < m ∧ sR (vF F i) v = true := by
    intro m
    induction m with
    | zero => intro h; simp [sumN] at h
    | succ m ih =>
      intro h
      simp only [sumN] at h
      by_cases c : sR (vF F m) v = true
      · exact ⟨m, by omega, c⟩
      · rw [if_neg c] at h
        obtain ⟨i, h1, h2⟩ := ih h
        exact ⟨i, by omega, h2⟩
  exact this _ h
theorem Grew.quo (h : Grew n s F G) (hF : VOk n s F) (hG : VOk n s G) (hq : qB s F (totN s n).a = true) : qB s G (totN s n).a = true ∧ sR (qV s G (totN s n).a) (qV s F (totN s n).a) = true := by
  have h1 := q_great hq
  have h2 := h.great hF hG h1
  have h3 : 0 < forN s G (qV s F (totN s n).a) := by
    have := of_decide_eq_true h2
    rw [hG.forV] at this; omega
  obtain ⟨i, hi, e⟩ := for_in h3
  rw [← forV_congr e] at h2
  obtain ⟨h4, h5⟩ := q_yes hG hi h2
  exact ⟨h4, sR_trans (sR_symm h5) e⟩
end
end Go.Eng
end
section
namespace Go.Eng
set_option linter.unusedSimpArgs false
set_option linter.unusedVariables false
def fdV (F : Fst) (w : Nat) : Nat → UInt8 := (findE eqI ((w : Nat) : Int) F).getD fun _ => 0
def fdB (F : Fst) (w : Nat) : Bool := (findE eqI ((w : Nat) : Int) F).isSome
def hasN (F : Fst) (p : Nat → UInt8) (w : Nat) : Bool := fdB F w && sR (fdV F w) p
def whoN (s : Nat → UInt64) (F : Fst) (p : Nat → UInt8) (n : Nat) : Nat := sumN (fun w => if hasN F p w = true then (s w).toNat else 0) n
def FW (n : Nat) (s : Nat → UInt64) (F : Fst) : Prop := ∀ p, forN s F p = whoN s F p n
theorem sumN_zero : ∀ n, sumN (fun _ => 0) n = 0
  | 0 => rfl
  | n + 1 => by simp only [sumN, sumN_zero n]
theorem sumN_one {i c : Nat} : ∀ {n : Nat}, i < n → sumN (fun w => if w = i then c else 0) n = c
  | n + 1, h => by
    simp only [sumN]
    by_cases e : n = i
    · subst e
      rw [if_pos rfl, sumN_congr (g := fun _ => 0) n fun j hj => if_neg (by omega), sumN_zero]; omega
    · rw [if_neg e, sumN_one (show i < n by omega), Nat.add_zero]
theorem FW.nil (n : Nat) (s : Nat → UInt64) : FW n s [] := fun p => by
  unfold whoN
  have : (fun w => if hasN [] p w = true then (s w).toNat else 0) = fun _ => 0 := funext fun w => by simp [hasN, fdB, findE]
  rw [this, sumN_zero]; rfl
theorem find_app {α β : Type} {eqb : α → α → Bool} {k : α} {m : List (α × β)} {x : α × β} : findE eqb k (m ++ [x]) = match findE eqb k m with
    | some y => some y
    | none => if eqb k x.1 = true then some x.2 else none := by
  induction m with
  | nil => simp [findE]
  | cons q m ih =>
    obtain ⟨b, y⟩ := q
    simp only [List.cons_append, findE]
    by_cases e : eqb k b = true
    · simp [e]
    · simp [e, ih]
theorem FW.vote {n : Nat} {s : Nat → UInt64} {F : Fst} (h : FW n s F) (who : Int) (w : Nat → UInt8) : FW n s (voteF n s F who w) := by
  by_cases e : voteE n s F who w = 0
  · obtain ⟨e1, h1, h2, _, h4⟩ := voteF_new e
    obtain ⟨i, rfl⟩ := Int.eq_ofNat_of_zero_le h1
    have hi : i < n := h2
    intro p
    rw [e1, forN_app, h p]
    unfold whoN
    have hf : ∀ j, hasN (F ++ [((i : Int), w)]) p j = if j = i then sR w p else hasN F p j := fun j => by
      unfold hasN fdB fdV
      rw [find_app]
      by_cases c : j = i
      · subst c
        rw [h4]; simp [eqI]
      · have : eqI (j : Int) (i : Int) = false := by simp [eqI]; omega
        rw [this, if_neg c]
        cases findE eqI ((j : Nat) : Int) F <;> rfl
    have h0 : hasN F p i = false := by unfold hasN fdB; rw [h4]; rfl
    have : (fun j => if hasN (F ++ [((i : Int), w)]) p j = true then (s j).toNat else 0) = fun j => (if hasN F p j = true then (s j).toNat else 0) + if j = i then (if sR w p = true then (s i).toNat else 0) else 0 := funext fun j => by
      rw [hf]
      by_cases c : j = i
      · subst c; rw [h0]; simp
      · simp [c]
    rw [this, sumN_add, sumN_one hi]
    rfl
  · have : voteF n s F who w = F := if_neg e
    rw [this]; exact h
theorem sumU_mono (s : Nat → UInt64) : ∀ {a b : Nat}, a ≤ b → sumU s a ≤ sumU s b
  | a, 0, h => by have : a = 0 := by omega
                  subst this; exact Nat.le_refl _
  | a, b + 1, h => by
    by_cases e : a = b + 1
    · subst e; exact Nat.le_refl _
    · have := sumU_mono s (show a ≤ b by omega); simp only [sumU]; omega
end Go.Eng
end
section
namespace Go.Eng
set_option linter.unusedSimpArgs false
set_option linter.unusedVariables false
section
variable {n : Nat} {f : Nat → UInt64} {g : Nat → UInt8}
def wa (n : Nat) (f : Nat → UInt64) (j : Nat) : Nat := if j < n then (f j).toNat else 0
end
end Go.Eng
end
section
namespace Go.Eng
set_option linter.unusedSimpArgs false
set_option linter.unusedVariables false
theorem rowL_ok (f : Nat → UInt8) : (rowL f).length = 32 ∧ (rowL f).all Value.oneCell' = true := ⟨rfl, by
  rw [List.all_eq_true]
  intro v hv
  obtain ⟨k, _, rfl⟩ := List.mem_map.1 hv
  rfl⟩
def tabRw (n : Nat) (f : Nat → Nat → UInt8) : Cont := .tab n 32 fun k => rowL (f k)
def rfor (s : Nat → UInt64) (J : Nat → Bool) (V : Nat → Nat → UInt8) (v : Nat → UInt8) : Nat → UInt64
  | 0 => 0
  | i + 1 => if selB (J i) (sR (V i) v) false = true then rfor s J V v i + s i else rfor s J V v i
def rany (s : Nat → UInt64) (J : Nat → Bool) : Nat → UInt64
  | 0 => 0
  | i + 1 => if J i = true then rany s J i + s i else rany s J i
theorem rfor_yes {s : Nat → UInt64} {J : Nat → Bool} {V : Nat → Nat → UInt8} {v : Nat → UInt8} {i : Nat} {a : UInt64} (e : a = rfor s J V v i) (h : selB (J i) (sR (V i) v) false = true) : a + s i = rfor s J V v (i + 1) := by
  show _ = if _ then _ else _
  rw [if_pos h, e]
theorem rfor_no {s : Nat → UInt64} {J : Nat → Bool} {V : Nat → Nat → UInt8} {v : Nat → UInt8} {i : Nat} {a : UInt64} (e : a = rfor s J V v i) (h : selB (J i) (sR (V i) v) false = false) : a = rfor s J V v (i + 1) := by
  show _ = if _ then _ else _
  rw [if_neg (by rw [h]; decide), e]
theorem rany_yes {s : Nat → UInt64} {J : Nat → Bool} {i : Nat} {a : UInt64} (e : a = rany s J i) (h : J i = true) : a + s i = rany s J (i + 1) := by
  show _ = if _ then _ else _
  rw [if_pos h, e]
theorem rany_no {s : Nat → UInt64} {J : Nat → Bool} {i : Nat} {a : UInt64} (e : a = rany s J i) (h : J i = false) : a = rany s J (i + 1) := by
  show _ = if _ then _ else _
  rw [if_neg (by rw [h]; decide), e]
def rqC (s : Nat → UInt64) (J : Nat → Bool) (V : Nat → Nat → UInt8) (n : Nat) (i : Nat) : Bool := selB (J i) (greatU (rfor s J V (V i) n) (sumW s n)) false
def rqB (s : Nat → UInt64) (J : Nat → Bool) (V : Nat → Nat → UInt8) (n : Nat) : Bool := (List.range n).any (rqC s J V n)
def rqV (s : Nat → UInt64) (J : Nat → Bool) (V : Nat → Nat → UInt8) (n : Nat) : Nat → UInt8 := match (List.range n).find? (rqC s J V n) with
  | some i => V i
  | none => fun _ => 0
theorem find_first {p : Nat → Bool} {n i : Nat} (hi : i < n) (h : p i = true) (hn : ∀ j, j < i → p j = false) : (List.range n).find? p = some i := by
  cases hf : (List.range n).find? p with
  | none => exact absurd h (by have := List.find?_eq_none.1 hf i (List.mem_range.2 hi); simpa using this)
  | some j =>
    have h1 := List.find?_some hf
    obtain ⟨_, aS, bs, h2, h3⟩ := List.find?_eq_some_iff_append.1 hf
    rcases Nat.lt_trichotomy j i with h4 | h4 | h4
    · rw [hn j h4] at h1; cases h1
    · rw [h4]
    · have hm : i ∈ aS := by
        have : (List.range n)[i]? = some i := by simp [hi]
        have hlen : (List.range n)[aS.length]? = some j := by rw [h2]; simp
        have hj : aS.length = j := by
          have : aS.length < n := by
            have := congrArg List.length h2; simp at this; omega
          simp [this] at hlen; exact hlen
        rw [h2, List.getElem?_append_left (by omega)] at this
        exact List.mem_of_getElem? this
      have := h3 i hm
      rw [h] at this; cases this
theorem rq_yes {s : Nat → UInt64} {J : Nat → Bool} {V : Nat → Nat → UInt8} {n i : Nat} (hi : i < n) (h : rqC s J V n i = true) (hn : ∀ j, j < i → rqC s J V n j = false) :
    Value.tuple #[rowV (V i), .bool true] = .tuple #[rowV (rqV s J V n), .bool (rqB s J V n)] := by
  unfold rqV rqB
  rw [find_first hi h hn, List.any_eq_true.2 ⟨i, List.mem_range.2 hi, h⟩]
theorem rq_no {s : Nat → UInt64} {J : Nat → Bool} {V : Nat → Nat → UInt8} {n : Nat} (hn : ∀ j, j < n → rqC s J V n j = false) :
    Value.tuple #[rowV (fun _ => 0), .bool false] = .tuple #[rowV (rqV s J V n), .bool (rqB s J V n)] := by
  have h1 : (List.range n).find? (rqC s J V n) = none := List.find?_eq_none.2 fun i hi => by rw [hn i (List.mem_range.1 hi)]; decide
  have h2 : rqB s J V n = false := by
    unfold rqB
    rw [List.any_eq_false]
    exact fun i hi => by rw [hn i (List.mem_range.1 hi)]; decide
  rw [h2]; unfold rqV; rw [h1]
def rvE (n : Nat) (s : Nat → UInt64) (J : Nat → Bool) (V : Nat → Nat → UInt8) (who : Int) (v : Nat → UInt8) : Int :=
  if who < 0 ∨ (n : Int) ≤ who then 1 else if s who.toNat = 0 then 51 else if selB (J who.toNat) (sR (V who.toNat) v) false = true then 13 else if J who.toNat = true then 52 else 0
def rvJ (n : Nat) (s : Nat → UInt64) (J : Nat → Bool) (V : Nat → Nat → UInt8) (who : Int) (v : Nat → UInt8) : Nat → Bool := if rvE n s J V who v = 0 then upd J who.toNat true else J
def rvV (n : Nat) (s : Nat → UInt64) (J : Nat → Bool) (V : Nat → Nat → UInt8) (who : Int) (v : Nat → UInt8) : Nat → Nat → UInt8 := if rvE n s J V who v = 0 then upd V who.toNat v else V
def rvG (n : Nat) (s : Nat → UInt64) (J : Nat → Bool) (V : Nat → Nat → UInt8) (G : Nat → Bool) (who : Int) (v : Nat → UInt8) : Nat → Bool := if rvE n s J V who v = 52 then upd G who.toNat true else G
section
variable {n : Nat} {s : Nat → UInt64} {J G : Nat → Bool} {V : Nat → Nat → UInt8} {who : Int} {v : Nat → UInt8}
theorem rv_1 (h : who < 0 ∨ (n : Int) ≤ who) : rvE n s J V who v = 1 := if_pos h
theorem rv_51 (h : ¬ (who < 0 ∨ (n : Int) ≤ who)) (h0 : (s who.toNat == 0) = true) : rvE n s J V who v = 51 := by
  unfold rvE; rw [if_neg h, if_pos (eq_of_beq h0)]
theorem rv_13 (h : ¬ (who < 0 ∨ (n : Int) ≤ who)) (h0 : (s who.toNat == 0) = false) (h1 : selB (J who.toNat) (sR (V who.toNat) v) false = true) : rvE n s J V who v = 13 := by
  unfold rvE; rw [if_neg h, if_neg (by simpa using h0), if_pos h1]
theorem rv_52 (h : ¬ (who < 0 ∨ (n : Int) ≤ who)) (h0 : (s who.toNat == 0) = false) (h1 : selB (J who.toNat) (sR (V who.toNat) v) false = false) (h2 : J who.toNat = true) : rvE n s J V who v = 52 := by
  unfold rvE; rw [if_neg h, if_neg (by simpa using h0), if_neg (by rw [h1]; decide), if_pos h2]
theorem rv_0 (h : ¬ (who < 0 ∨ (n : Int) ≤ who)) (h0 : (s who.toNat == 0) = false) (h1 : selB (J who.toNat) (sR (V who.toNat) v) false = false) (h2 : J who.toNat = false) : rvE n s J V who v = 0 := by
  unfold rvE; rw [if_neg h, if_neg (by simpa using h0), if_neg (by rw [h1]; decide), if_neg (by rw [h2]; decide)]
theorem rv_res {e : Int} (h : rvE n s J V who v = e) (h0 : e ≠ 0) (h52 : e ≠ 52) : rvJ n s J V who v = J ∧ rvV n s J V who v = V ∧ rvG n s J V G who v = G :=
  ⟨if_neg (by rw [h]; exact h0), if_neg (by rw [h]; exact h0), if_neg (by rw [h]; exact h52)⟩
theorem rv_res0 (h : rvE n s J V who v = 0) : rvJ n s J V who v = upd J who.toNat true ∧ rvV n s J V who v = upd V who.toNat v ∧ rvG n s J V G who v = G := ⟨if_pos h, if_pos h, if_neg (by rw [h]; decide)⟩
theorem rv_res52 (h : rvE n s J V who v = 52) : rvJ n s J V who v = J ∧ rvV n s J V who v = V ∧ rvG n s J V G who v = upd G who.toNat true := ⟨if_neg (by rw [h]; decide), if_neg (by rw [h]; decide), if_pos h⟩
structure TwR (n : Nat) (F : Fst) (A : List (Int × Unit)) (J : Nat → Bool) (V : Nat → Nat → UInt8) (G : Nat → Bool) : Prop where
  j : ∀ w, w < n → J w = fdB F w
  v : ∀ w, w < n → V w = fdV F w
  g : ∀ w, w < n → G w = (findE eqI ((w : Nat) : Int) A).isSome
theorem TwR.nil (n : Nat) : TwR n [] [] (fun _ => false) (fun _ _ => 0) (fun _ => false) := ⟨fun _ _ => rfl, fun _ _ => rfl, fun _ _ => rfl⟩
end
end Go.Eng
namespace Go.Eng
def twL (G : Nat → Bool) (i : Nat) : List Nat := (List.range i).filter G
theorem twL_yes {G : Nat → Bool} {i : Nat} (h : G i = true) : twL G (i + 1) = twL G i ++ [i] := by
  unfold twL; rw [List.range_succ, List.filter_append]; simp [h]
theorem twL_no {G : Nat → Bool} {i : Nat} (h : G i = false) : twL G (i + 1) = twL G i := by
  unfold twL; rw [List.range_succ, List.filter_append]; simp [h]
def intC (x : Int) : List Value := [int x]
theorem intC_ok (x : Int) : (intC x).length = 1 ∧ (intC x).all Value.oneCell' = true := ⟨rfl, rfl⟩
def intL (l : List Nat) : Nat → Int := fun k => ((l.getD k 0 : Nat) : Int)
theorem tw_cat {l : List Nat} {N i : Nat} {f : Nat → Int} (hn : N = l.length) (hf : ∀ k, k < N → f k = intL l k) : ∀ k, k < N + 1 → catU f N (fun _ => ((i : Nat) : Int)) k = intL (l ++ [i]) k := fun k hk => by
  unfold catU intL
  by_cases h : k < N
  · rw [if_pos h, hf k h]
    unfold intL
    rw [List.getD_eq_getElem?_getD, List.getD_eq_getElem?_getD, List.getElem?_append_left (by omega)]
  · rw [if_neg h]
    have e : k = l.length := by omega
    subst e
    simp
theorem twL_le (G : Nat → Bool) (i : Nat) : (twL G i).length ≤ i := by
  unfold twL; have := List.length_filter_le G (List.range i); simpa using this
end Go.Eng
namespace Go.Eng
def kyO (A : List (Int × Unit)) (o : List Nat) : List Int := o.map fun j => (kvAt ((0 : Int), ()) A j).1
theorem ky_cat {A : List (Int × Unit)} {o : List Nat} {N j : Nat} {f : Nat → Int} (hn : N = o.length) (hf : ∀ k, k < N → f k = (kyO A o).getD k 0) : ∀ k, k < N + 1 → catU f N (fun _ => (kvAt ((0 : Int), ()) A j).1) k = (kyO A (o ++ [j])).getD k 0 := fun k hk => by
  unfold catU
  have hl : (kyO A o).length = o.length := by unfold kyO; simp
  have e : kyO A (o ++ [j]) = kyO A o ++ [(kvAt ((0 : Int), ()) A j).1] := by unfold kyO; simp
  rw [e]
  by_cases h : k < N
  · rw [if_pos h, hf k h, List.getD_eq_getElem?_getD, List.getD_eq_getElem?_getD, List.getElem?_append_left (by omega)]
  · rw [if_neg h]
    have e : k = (kyO A o).length := by omega
    subst e
    simp
theorem ordA_len {n : Nat} {o : List Nat} (h : OrdA n o) : o.length = n := by
  have h1 := lsum_eq (fun _ => 1) n o h.nd h.mem
  have h2 : ∀ l : List Nat, lsum (fun _ => 1) l = l.length := fun l => by
    induction l with
    | nil => rfl
    | cons x l ih => simp only [lsum, ih, List.length_cons]; omega
  have h3 : ∀ k, sumN (fun _ => 1) k = k := fun k => by
    induction k with
    | zero => rfl
    | succ k ih => simp only [sumN, ih]
  rw [h2, h3] at h1; exact h1
end Go.Eng
end
section
namespace Go.Eng
set_option linter.unusedSimpArgs false
set_option linter.unusedVariables false
theorem sorted_eq {l l' : List Int} (h1 : l.Pairwise (· ≤ ·)) (h2 : l'.Pairwise (· ≤ ·)) (h : l.Perm l') : l = l' :=
  List.Perm.eq_of_pairwise (le := (· ≤ ·)) (fun a b _ _ => Int.le_antisymm) h1 h2 h
theorem srtI_perm (l : List Int) : (srtI l).Perm l := List.mergeSort_perm _ _
theorem srtI_sorted (l : List Int) : (srtI l).Pairwise (· ≤ ·) := by
  have h := List.pairwise_mergeSort (le := fun x y : Int => decide (x ≤ y)) (fun a b c h1 h2 => by simp only [decide_eq_true_eq] at *; omega) (fun a b => by simp only [Bool.or_eq_true, decide_eq_true_eq]; omega) l
  exact h.imp fun h => of_decide_eq_true h
theorem srtI_congr {l l' : List Int} (h : l.Perm l') : srtI l = srtI l' := sorted_eq (srtI_sorted _) (srtI_sorted _) (((srtI_perm l).trans h).trans (srtI_perm l').symm)
theorem perm_range : ∀ (n : Nat) (o : List Nat), o.Nodup → (∀ x, x ∈ o ↔ x < n) → o.Perm (List.range n)
  | 0, o, _, h => by
    cases o with
    | nil => exact .refl _
    | cons x l => exact absurd ((h x).1 (.head _)) (by omega)
  | n + 1, o, hn, h => by
    have hm : n ∈ o := (h n).2 (by omega)
    have ih := perm_range n (o.erase n) (hn.erase n) fun x => by rw [hn.mem_erase_iff, h x]; omega
    rw [List.range_succ]
    exact (List.perm_cons_erase hm).trans ((ih.cons n).trans (List.perm_append_singleton n (List.range n)).symm)
theorem perm_nodup' {l l' : List Int} (h1 : l.Nodup) (h2 : l'.Nodup) (h : ∀ x, x ∈ l ↔ x ∈ l') : l.Perm l' := by
  induction l generalizing l' with
  | nil =>
    cases l' with
    | nil => exact .refl _
    | cons x t => exact absurd ((h x).2 (.head _)) (by simp)
  | cons a t ih =>
    obtain ⟨ha, ht⟩ := List.nodup_cons.1 h1
    have hm : a ∈ l' := (h a).1 (.head _)
    refine ((ih ht (h2.erase a) fun x => ?_).cons a).trans (List.perm_cons_erase hm).symm
    rw [h2.mem_erase_iff]
    constructor
    · intro hx
      exact ⟨fun e => ha (e ▸ hx), (h x).1 (.tail _ hx)⟩
    · rintro ⟨hne, hx⟩
      rcases List.mem_cons.1 ((h x).2 hx) with e | e
      · exact absurd e hne
      · exact e
theorem ky_len {A : List (Int × Unit)} {o : List Nat} (h : OrdA A.length o) : (kyO A o).length = A.length := by unfold kyO; rw [List.length_map]; exact ordA_len h
theorem ky_perm {A : List (Int × Unit)} {o : List Nat} (h : OrdA A.length o) : (kyO A o).Perm (A.map (·.1)) := by
  have h1 := (perm_range A.length o h.nd h.mem).map fun j => (kvAt ((0 : Int), ()) A j).1
  refine h1.trans (.of_eq (List.ext_getElem (by simp) fun i h2 h3 => ?_))
  simp at h2
  simp [kvAt, List.getD_eq_getElem?_getD, h2]
def kyS (A : List (Int × Unit)) : List Int := srtI (A.map (·.1))
theorem ky_srt {A : List (Int × Unit)} {o : List Nat} (h : OrdA A.length o) : srtI (kyO A o) = kyS A := srtI_congr (ky_perm h)
def skO (A : List (Int × Unit)) (nm : Nat) : Option Blk := if A.length = 0 then none else some ⟨nm, true, 0, tabF A.length fun k => int (zL (kyS A) k)⟩
structure AOk (n : Nat) (A : List (Int × Unit)) : Prop where
  nd : (A.map (·.1)).Nodup
  lt : ∀ x, x ∈ A.map (·.1) → 0 ≤ x ∧ x.toNat < n
theorem AOk.nil (n : Nat) : AOk n [] := ⟨List.nodup_nil, fun x hx => by cases hx⟩
theorem put_keys {k : Int} : ∀ {A : List (Int × Unit)}, (putE eqI k () A).map (·.1) = if k ∈ A.map (·.1) then A.map (·.1) else A.map (·.1) ++ [k]
  | [] => by simp [putE]
  | (h, y) :: A => by
    have ih := put_keys (k := k) (A := A)
    simp only [putE]
    by_cases e : eqI k h = true
    · have : k = h := by simpa [eqI] using e
      subst this
      simp [e]
    · have hne : k ≠ h := fun c => e (by simp [eqI, c])
      have e2 : eqI k h = false := by simpa using e
      rw [e2]
      by_cases c : k ∈ A.map (·.1)
      · rw [if_pos c] at ih
        simp only [Bool.false_eq_true, if_false, List.map_cons, List.mem_cons]
        rw [ih, if_pos (.inr c)]
      · rw [if_neg c] at ih
        simp only [Bool.false_eq_true, if_false, List.map_cons, List.mem_cons]
        rw [ih, if_neg (by rintro (x | x); exact hne x; exact c x)]; rfl
theorem AOk.put {n : Nat} {A : List (Int × Unit)} (h : AOk n A) {k : Int} (h0 : 0 ≤ k) (h1 : k.toNat < n) : AOk n (putE eqI k () A) := by
  by_cases c : k ∈ A.map (·.1)
  · have e := put_keys (k := k) (A := A)
    rw [if_pos c] at e
    exact ⟨by rw [e]; exact h.nd, fun x hx => h.lt x (by rw [e] at hx; exact hx)⟩
  · have e := put_keys (k := k) (A := A)
    rw [if_neg c] at e
    have hnd : (A.map (·.1) ++ [k]).Nodup := List.nodup_append.2 ⟨h.nd, by simp, fun a ha b hb => by
      have hb' : b = k := by simpa using hb
      rw [hb']; exact fun e2 => c (e2 ▸ ha)⟩
    refine ⟨by rw [e]; exact hnd, fun x hx => ?_⟩
    rw [e] at hx
    rcases List.mem_append.1 hx with hx | hx
    · exact h.lt x hx
    · have hx' : x = k := by simpa using hx
      rw [hx']; exact ⟨h0, h1⟩
theorem AOk.vote {n : Nat} {s : Nat → UInt64} {F : Fst} {A : List (Int × Unit)} (h : AOk n A) (who : Int) (v : Nat → UInt8) : AOk n (voteA n s F A who v) := by
  by_cases e : voteE n s F who v = 52
  · rw [show voteA n s F A who v = putE eqI who () A from if_pos e]
    have : ¬ (who < 0 ∨ (n : Int) ≤ who) := fun hc => by rw [vote_1 hc] at e; cases e
    exact h.put (by omega) (by omega)
  · rw [show voteA n s F A who v = A from if_neg e]; exact h
theorem AOk.len {n : Nat} {A : List (Int × Unit)} (h : AOk n A) : A.length ≤ n := by
  have h1 : OrdN n ((A.map (·.1)).map Int.toNat) := by
    refine ⟨List.pairwise_map.2 (h.nd.imp_of_mem fun {a b} ha hb hab => ?_), fun x hx => ?_⟩
    · have := h.lt a ha; have := h.lt b hb; omega
    · obtain ⟨y, hy, rfl⟩ := List.mem_map.1 hx; exact (h.lt y hy).2
  have := nodup_len h1
  simpa using this
theorem twL_mem (G : Nat → Bool) (n x : Nat) : x ∈ twL G n ↔ x < n ∧ G x = true := by unfold twL; rw [List.mem_filter, List.mem_range]
theorem ky_tw {n : Nat} {A : List (Int × Unit)} {G : Nat → Bool} (h : AOk n A) (hG : ∀ w, w < n → (G w = true ↔ ((w : Nat) : Int) ∈ A.map (·.1))) : kyS A = (twL G n).map fun w => ((w : Nat) : Int) := by
  refine sorted_eq (srtI_sorted _) ?_ ((srtI_perm _).trans (perm_nodup' h.nd ?_ fun x => ?_))
  · refine List.pairwise_map.2 ((List.pairwise_lt_range (n := n)).sublist (List.filter_sublist (p := G)) |>.imp fun h => by omega)
  · refine List.pairwise_map.2 ((List.nodup_range (n := n)).sublist (List.filter_sublist (p := G)) |>.imp fun h => by omega)
  · constructor
    · intro hx
      obtain ⟨h0, h1⟩ := h.lt x hx
      exact List.mem_map.2 ⟨x.toNat, (twL_mem G n _).2 ⟨h1, (hG _ h1).2 (by rw [Int.toNat_of_nonneg h0]; exact hx)⟩, Int.toNat_of_nonneg h0⟩
    · intro hx
      obtain ⟨w, hw, rfl⟩ := List.mem_map.1 hx
      obtain ⟨h1, h2⟩ := (twL_mem G n w).1 hw
      exact (hG w h1).1 h2
end Go.Eng
end
section
namespace Go.Eng
set_option linter.unusedSimpArgs false
set_option linter.unusedVariables false
section
variable {n : Nat} {s : Nat → UInt64} {F : Fst} {A : List (Int × Unit)} {J G : Nat → Bool} {V : Nat → Nat → UInt8}
theorem tw_E (h : TwR n F A J V G) (who : Int) (v : Nat → UInt8) : rvE n s J V who v = voteE n s F who v := by
  unfold rvE voteE
  by_cases c : who < 0 ∨ (n : Int) ≤ who
  · rw [if_pos c, if_pos c]
  · rw [if_neg c, if_neg c]
    split
    · rfl
    · obtain ⟨w, rfl⟩ := Int.eq_ofNat_of_zero_le (show 0 ≤ who by omega)
      have hw : w < n := by omega
      have e1 := h.j w hw
      have e2 := h.v w hw
      unfold fdB at e1
      unfold fdV at e2
      simp only [Int.toNat_natCast]
      cases hf : findE eqI ((w : Nat) : Int) F with
      | none =>
        rw [hf] at e1
        have e3 : J w = false := e1
        simp [e3, selB]
      | some x =>
        rw [hf] at e1 e2
        have e3 : J w = true := e1
        have e4 : V w = x := e2
        simp [e3, e4, selB]
theorem find_put_ne {α : Type} {k who : Int} {x : α} {m : List (Int × α)} (h : k ≠ who) : findE eqI k (putE eqI who x m) = findE eqI k m := find_put_other eqvI (by simp [eqI, h]) x m
theorem TwR.vote (h : TwR n F A J V G) (who : Int) (v : Nat → UInt8) : TwR n (voteF n s F who v) (voteA n s F A who v) (rvJ n s J V who v) (rvV n s J V who v) (rvG n s J V G who v) := by
  have hE := tw_E (s := s) h who v
  by_cases c0 : voteE n s F who v = 0
  · obtain ⟨e1, h1, h2, _, _⟩ := voteF_new c0
    obtain ⟨i, rfl⟩ := Int.eq_ofNat_of_zero_le h1
    have e2 : rvJ n s J V (i : Int) v = upd J i true := (if_pos (by rw [hE]; exact c0)).trans rfl
    have e3 : rvV n s J V (i : Int) v = upd V i v := (if_pos (by rw [hE]; exact c0)).trans rfl
    have e4 : rvG n s J V G (i : Int) v = G := if_neg (by rw [hE, c0]; decide)
    have e5 : voteA n s F A (i : Int) v = A := if_neg (by rw [c0]; decide)
    have e6 : voteF n s F (i : Int) v = putE eqI (i : Int) v F := if_pos c0
    rw [e2, e3, e4, e5, e6]
    refine ⟨fun w hw => ?_, fun w hw => ?_, h.g⟩
    · unfold upd fdB
      by_cases c : w = i
      · subst c; rw [if_pos rfl, find_put_same eqvI]; rfl
      · rw [if_neg c, find_put_ne (by omega)]; exact h.j w hw
    · unfold upd fdV
      by_cases c : w = i
      · subst c; rw [if_pos rfl, find_put_same eqvI]; rfl
      · rw [if_neg c, find_put_ne (by omega)]; exact h.v w hw
  · have e2 : rvJ n s J V who v = J := if_neg (by rw [hE]; exact c0)
    have e3 : rvV n s J V who v = V := if_neg (by rw [hE]; exact c0)
    have e6 : voteF n s F who v = F := if_neg c0
    rw [e2, e3, e6]
    by_cases c5 : voteE n s F who v = 52
    · have hr : ¬ (who < 0 ∨ (n : Int) ≤ who) := fun hc => by rw [vote_1 hc] at c5; cases c5
      obtain ⟨i, rfl⟩ := Int.eq_ofNat_of_zero_le (show 0 ≤ who by omega)
      have e4 : rvG n s J V G (i : Int) v = upd G i true := (if_pos (by rw [hE]; exact c5)).trans rfl
      have e5 : voteA n s F A (i : Int) v = putE eqI (i : Int) () A := if_pos c5
      rw [e4, e5]
      refine ⟨h.j, h.v, fun w hw => ?_⟩
      unfold upd
      by_cases c : w = i
      · subst c; rw [if_pos rfl, find_put_same eqvI]; rfl
      · rw [if_neg c, find_put_ne (by omega)]; exact h.g w hw
    · have e4 : rvG n s J V G who v = G := if_neg (by rw [hE]; exact c5)
      have e5 : voteA n s F A who v = A := if_neg c5
      rw [e4, e5]; exact h
def FA (n : Nat) (s : Nat → UInt64) (F : Fst) : Prop := anyN s F = sumN (fun w => if fdB F w = true then (s w).toNat else 0) n
theorem FA.nil (n : Nat) (s : Nat → UInt64) : FA n s [] := by
  unfold FA
  have : (fun w => if fdB [] w = true then (s w).toNat else 0) = fun _ => 0 := funext fun w => by simp [fdB, findE]
  rw [this, sumN_zero]; rfl
theorem FA.vote (h : FA n s F) (who : Int) (v : Nat → UInt8) : FA n s (voteF n s F who v) := by
  by_cases e : voteE n s F who v = 0
  · obtain ⟨e1, h1, h2, _, h4⟩ := voteF_new e
    obtain ⟨i, rfl⟩ := Int.eq_ofNat_of_zero_le h1
    have hi : i < n := h2
    unfold FA at h ⊢
    rw [e1, anyN_app, h]
    have hf : ∀ j, fdB (F ++ [((i : Int), v)]) j = if j = i then true else fdB F j := fun j => by
      unfold fdB
      rw [find_app]
      by_cases c : j = i
      · subst c; rw [h4]; simp [eqI]
      · have : eqI (j : Int) (i : Int) = false := by simp [eqI]; omega
        rw [this, if_neg c]
        cases findE eqI ((j : Nat) : Int) F <;> rfl
    have h0 : fdB F i = false := by unfold fdB; rw [h4]; rfl
    have : (fun j => if fdB (F ++ [((i : Int), v)]) j = true then (s j).toNat else 0) = fun j => (if fdB F j = true then (s j).toNat else 0) + if j = i then (s i).toNat else 0 := funext fun j => by
      rw [hf]
      by_cases c : j = i
      · subst c; rw [h0]; simp
      · simp [c]
    rw [this, sumN_add, sumN_one hi]
    rfl
  · have : voteF n s F who v = F := if_neg e
    rw [this]; exact h
theorem rfor_for (hF : VOk n s F) (hW : FW n s F) (h : TwR n F A J V G) (v : Nat → UInt8) : rfor s J V v n = Go.Eng.forV s F v := by
  have key : ∀ i, i ≤ n → (rfor s J V v i).toNat = sumN (fun w => if hasN F v w = true then (s w).toNat else 0) i := by
    intro i
    induction i with
    | zero => intro _; rfl
    | succ i ih =>
      intro hi
      have h1 := ih (by omega)
      have e : selB (J i) (sR (V i) v) false = hasN F v i := by rw [h.j i (by omega), h.v i (by omega)]; unfold selB hasN; cases fdB F i <;> rfl
      have hle : sumN (fun w => if hasN F v w = true then (s w).toNat else 0) (i + 1) ≤ sumU s n := Nat.le_trans (by rw [sumU_N s (i + 1)]; exact sumN_le _ fun w _ => by split <;> omega) (sumU_mono s hi)
      show (if selB (J i) (sR (V i) v) false = true then rfor s J V v i + s i else rfor s J V v i).toNat = _
      rw [e]
      simp only [sumN] at hle ⊢
      by_cases c : hasN F v i = true
      · rw [if_pos c] at hle
        rw [if_pos c, if_pos c, UInt64.toNat_add, h1]
        exact Nat.mod_eq_of_lt (by have := hF.good.2; omega)
      · rw [if_neg c, if_neg c, h1]; rfl
  apply UInt64.toNat_inj.1
  rw [key n (Nat.le_refl _), hF.forV, hW v]; rfl
theorem rany_any (hF : VOk n s F) (hA : FA n s F) (h : TwR n F A J V G) : rany s J n = Go.Eng.anyV s F := by
  have key : ∀ i, i ≤ n → (rany s J i).toNat = sumN (fun w => if fdB F w = true then (s w).toNat else 0) i := by
    intro i
    induction i with
    | zero => intro _; rfl
    | succ i ih =>
      intro hi
      have h1 := ih (by omega)
      have hle : sumN (fun w => if fdB F w = true then (s w).toNat else 0) (i + 1) ≤ sumU s n := Nat.le_trans (by rw [sumU_N s (i + 1)]; exact sumN_le _ fun w _ => by split <;> omega) (sumU_mono s hi)
      show (if J i = true then rany s J i + s i else rany s J i).toNat = _
      rw [h.j i (by omega)]
      simp only [sumN] at hle ⊢
      by_cases c : fdB F i = true
      · rw [if_pos c] at hle
        rw [if_pos c, if_pos c, UInt64.toNat_add, h1]
        exact Nat.mod_eq_of_lt (by have := hF.good.2; omega)
      · rw [if_neg c, if_neg c, h1]; rfl
  apply UInt64.toNat_inj.1
  rw [key n (Nat.le_refl _), hF.anyV]; exact hA.symm
theorem fd_at {w : Nat} (h : fdB F w = true) : ∃ i, i < F.length ∧ kF F i = (w : Int) ∧ fdV F w = vF F i := by
  unfold fdB at h
  cases hf : findE eqI ((w : Nat) : Int) F with
  | none => rw [hf] at h; cases h
  | some x =>
    obtain ⟨p, hp, h1, h2⟩ := find_mem eqvI hf
    obtain ⟨i, hi, e⟩ := mem_at d0 hp
    refine ⟨i, hi, ?_, ?_⟩
    · unfold kF; rw [e]
      have h3 : ((w : Nat) : Int) = p.1 := by simpa [eqI] using h1
      exact h3.symm
    · unfold fdV vF; rw [hf, e, ← h2]; rfl
theorem at_fd (hF : VOk n s F) {i : Nat} (hi : i < F.length) : fdB F (kF F i).toNat = true ∧ fdV F (kF F i).toNat = vF F i := by
  have hk := (hF.key i hi).1
  have e : (((kF F i).toNat : Nat) : Int) = kF F i := Int.toNat_of_nonneg hk
  have hb : fdB F (kF F i).toNat = true := by
    unfold fdB; rw [e]
    cases hf : findE eqI (kF F i) F with
    | some x => rfl
    | none =>
      have := find_none hf _ (at_mem (d := d0) hi)
      have h2 : (kvAt d0 F i).1 = kF F i := rfl
      rw [h2] at this; simp [eqI] at this
  refine ⟨hb, ?_⟩
  obtain ⟨j, hj, h1, h2⟩ := fd_at hb
  rw [e] at h1
  rw [h2, hF.inj j i hj hi h1]
theorem rq_q (hg : goodN n s) (hF : VOk n s F) (hW : FW n s F) (h : TwR n F A J V G) : rqB s J V n = qB s F (totN s n).a ∧ sR (rqV s J V n) (qV s F (totN s n).a) = true := by
  have hC : ∀ w, w < n → rqC s J V n w = (fdB F w && greatU (Go.Eng.forV s F (fdV F w)) (totN s n).a) := fun w hw => by
    unfold rqC
    rw [h.j w hw, h.v w hw, rfor_for hF hW h, ← tot_sumW hg]
    unfold selB; cases fdB F w <;> rfl
  cases hf : (List.range n).find? (rqC s J V n) with
  | some w =>
    have hw := List.mem_range.1 (List.mem_of_find?_eq_some hf)
    have h1 := List.find?_some hf
    have h2 : rqB s J V n = true := List.any_eq_true.2 ⟨w, List.mem_range.2 hw, h1⟩
    have h3 : rqV s J V n = V w := by unfold rqV; rw [hf]
    rw [hC w hw] at h1
    simp only [Bool.and_eq_true] at h1
    obtain ⟨i, hi, _, e2⟩ := fd_at h1.1
    rw [e2] at h1
    obtain ⟨h4, h5⟩ := q_yes hF hi h1.2
    rw [h2, h3, h4, h.v w hw, e2]
    exact ⟨rfl, h5⟩
  | none =>
    have hn := List.find?_eq_none.1 hf
    have h2 : rqB s J V n = false := by
      unfold rqB; rw [List.any_eq_false]; exact fun i hi => hn i hi
    have h3 : rqV s J V n = fun _ => 0 := by unfold rqV; rw [hf]
    obtain ⟨h4, h5⟩ := q_no (s := s) (F := F) (a := (totN s n).a) fun i hi => by
      obtain ⟨e1, e2⟩ := at_fd hF hi
      have hw := (hF.key i hi).2
      have h6 := hn _ (List.mem_range.2 hw)
      rw [hC _ hw, e1, e2] at h6
      simpa using h6
    rw [h2, h3, h4, h5]
    exact ⟨rfl, sR_refl _⟩
end
end Go.Eng
end
section
namespace Go.Eng
set_option linter.unusedSimpArgs false
set_option linter.unusedVariables false
theorem findI_mem {k : Int} : ∀ {A : List (Int × Unit)}, (findE eqI k A).isSome = true ↔ k ∈ A.map (·.1)
  | [] => by simp [findE]
  | (h, x) :: r => by
    have ih := findI_mem (k := k) (A := r)
    by_cases e : k = h
    · simp [findE, eqI, e]
    · have e2 : eqI k h = false := by simp [eqI, e]
      simp only [findE, e2, List.map_cons, List.mem_cons, e, false_or]
      simpa using ih
theorem tw_keys {n : Nat} {F : Fst} {A : List (Int × Unit)} {J G : Nat → Bool} {V : Nat → Nat → UInt8} (h : TwR n F A J V G) : ∀ w, w < n → (G w = true ↔ ((w : Nat) : Int) ∈ A.map (·.1)) := fun w hw => by
  rw [h.g w hw]; exact findI_mem
theorem tw_len {n : Nat} {F : Fst} {A : List (Int × Unit)} {J G : Nat → Bool} {V : Nat → Nat → UInt8} (hA : AOk n A) (h : TwR n F A J V G) : A.length = (twL G n).length := by
  have e := congrArg List.length (ky_tw hA (tw_keys h))
  rw [List.length_map] at e
  rw [← e]
  show A.length = (srtI (A.map (·.1))).length
  rw [(srtI_perm _).length_eq, List.length_map]
theorem tw_at {n : Nat} {F : Fst} {A : List (Int × Unit)} {J G : Nat → Bool} {V : Nat → Nat → UInt8} (hA : AOk n A) (h : TwR n F A J V G) (k : Nat) (hk : k < A.length) : zL (kyS A) k = intL (twL G n) k := by
  have hk2 : k < (twL G n).length := by rw [← tw_len hA h]; exact hk
  unfold zL intL
  rw [ky_tw hA (tw_keys h)]
  simp [List.getD_eq_getElem?_getD, hk2]
theorem src_sk (A : List (Int × Unit)) (a r : Nat) : Src intC 1 (roO (skO A a)) (gsA (gsOf A.length (zL (kyS A)) a r)) A.length (zL (kyS A)) := fun h => by
  have h0 : ¬ A.length = 0 := by omega
  have hz : (gsOf A.length (zL (kyS A)) a r).z = false := decide_eq_false h0
  rw [gsA_own hz, show skO A a = some ⟨a, true, 0, tabF A.length fun k => int (zL (kyS A) k)⟩ from if_neg h0]
  exact ⟨_, _, _, rfl, rfl, rfl, fun j v hv => hv⟩
theorem fi_at {F : Fst} {k : Int} (h : (findE eqI k F).isSome = true) : ∃ i, i < F.length ∧ kF F i = k := by
  cases hf : findE eqI k F with
  | none => rw [hf] at h; cases h
  | some x =>
    obtain ⟨p, hp, h1, h2⟩ := find_mem eqvI hf
    obtain ⟨i, hi, e⟩ := mem_at d0 hp
    refine ⟨i, hi, ?_⟩
    unfold kF; rw [e]
    have h3 : k = p.1 := by simpa [eqI] using h1
    exact h3.symm
theorem find_out {n : Nat} {s : Nat → UInt64} {F : Fst} (hF : VOk n s F) {k : Int} (hk : k < 0 ∨ (n : Int) ≤ k) : findE eqI k F = none := by
  cases hf : findE eqI k F with
  | none => rfl
  | some x =>
    obtain ⟨i, hi, e⟩ := fi_at (F := F) (k := k) (by rw [hf]; rfl)
    have h := hF.key i hi
    rw [e] at h
    omega
theorem cnt_low {n : Nat} {s : Nat → UInt64} {F : Fst} (hF : VOk n s F) : selB (findE eqI (-1 : Int) F).isSome true (!sR ((findE eqI (-1 : Int) F).getD fun _ => 0) fun _ => 0) = false := by
  rw [find_out hF (.inl (by decide))]
  show selB false true (!sR (fun _ => 0) fun _ => 0) = false
  rw [sR_refl]; rfl
theorem cnt_high {n : Nat} {s : Nat → UInt64} {F : Fst} (hF : VOk n s F) {w : Nat} (hw : n ≤ w) : selB (fdB F w) true (!sR (fdV F w) fun _ => 0) = false := by
  have e := find_out hF (k := (w : Int)) (.inr (by omega))
  unfold fdB fdV
  rw [e]
  show selB false true (!sR (fun _ => 0) fun _ => 0) = false
  rw [sR_refl]; rfl
theorem cnt_in {n : Nat} {F : Fst} {A : List (Int × Unit)} {J G : Nat → Bool} {V : Nat → Nat → UInt8} (h : TwR n F A J V G) {w : Nat} (hw : w < n) : selB (!fdB F w == J w) true (!sR (fdV F w) (V w)) = false := by
  rw [h.j w hw, h.v w hw, sR_refl]; simp [selB]
end Go.Eng
end
