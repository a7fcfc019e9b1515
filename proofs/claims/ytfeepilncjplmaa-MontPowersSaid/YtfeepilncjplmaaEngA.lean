/-
  An engine for walks, first part: what is known of a function's slots and memory while it runs; contents of blocks; loads and stores.
-/
import Derived.Calls
import Derived.Orders
import Derived.Laws.IdiomCopy
import Derived.Laws.Cells
import Derived.Laws.World
import Derived.Laws.Entries
namespace Go.Eng

/-! ### contents of blocks, and states -/
inductive Cont where
  | lit (l : List Value)
  | tab (n sz : Nat) (f : Nat → List Value)

def Cont.get : Cont → Nat → Option Value
  | .lit l, o => l[o]?
  | .tab n sz f, o => if o < n * sz then (f (o / sz))[o % sz]? else none

structure Blk where
  name : Nat
  own : Bool
  base : Nat
  cont : Cont

structure Holds (b : Blk) (w : World) : Prop where
  lt : b.name < w.heap.size
  cell : ∀ o v, b.cont.get o = some v → w.cell? ⟨b.name, b.base + o, none⟩ = some v
  free : b.own = true → ∀ o v, b.cont.get o = some v → w.frozen? ⟨b.name, b.base + o, none⟩ = false

/-- What is known of a slot: its value; or its value if it was reckoned at all. -/
inductive EV where
  | v (x : Value)
  | c (g : Bool) (x : Value)

def EV.den : EV → Value
  | .v x => x
  | .c g x => match g with
    | true => x
    | false => undef

def EV.val : EV → Value
  | .v x => x
  | .c _ x => x

structure FSt where
  env : Nat → Option EV
  mem : Nat → Option Blk

/-- Own blocks are apart from all others. -/
def Apart (m : Nat → Option Blk) : Prop :=
  ∀ p q b c, p ≠ q → m p = some b → m q = some c → b.own = true → b.name ≠ c.name

structure Sat (nt : Nat) (s : FSt) (a : Act) (w : World) : Prop where
  defers : a.defers = []
  size : a.tmps.size = nt
  env : ∀ t e, s.env t = some e → a.tmps[t]? = some e.den
  mem : ∀ p b, s.mem p = some b → Holds b w
  apart : Apart s.mem

def Owns (m : Nat → Option Blk) (k : Nat) : Prop := ∃ p b, m p = some b ∧ b.own = true ∧ b.name = k

structure Adv (m : Nat → Option Blk) (w : World) (m' : Nat → Option Blk) (w' : World) : Prop where
  os : w'.os = w.os
  output : w'.output = w.output
  tape : w'.tape = w.tape
  size : w.heap.size ≤ w'.heap.size
  heap : ∀ k, k < w.heap.size → ¬ Owns m k → w'.heap[k]? = w.heap[k]?
  names : ∀ k, Owns m' k → Owns m k ∨ w.heap.size ≤ k
  ro : ∀ p b, m' p = some b → b.own = false → m p = some b

theorem Adv.refl (m : Nat → Option Blk) (w : World) : Adv m w m w :=
  ⟨rfl, rfl, rfl, Nat.le_refl _, fun _ _ _ => rfl, fun _ h => .inl h, fun _ _ h _ => h⟩

theorem Adv.trans {m m' m'' : Nat → Option Blk} {w w' w'' : World} (h : Adv m w m' w') (k : Adv m' w' m'' w'') : Adv m w m'' w'' where
  os := k.os.trans h.os
  output := k.output.trans h.output
  tape := k.tape.trans h.tape
  size := Nat.le_trans h.size k.size
  heap i hi hn := by
    have : ¬ Owns m' i := fun ho => by
      rcases h.names i ho with h1 | h1
      · exact hn h1
      · omega
    exact (k.heap i (Nat.lt_of_lt_of_le hi h.size) this).trans (h.heap i hi hn)
  names i hi := by
    rcases k.names i hi with h1 | h1
    · exact h.names i h1
    · exact .inr (Nat.le_trans h.size h1)
  ro p b hb ho := h.ro p b (k.ro p b hb ho) ho

theorem Adv.weak {m m' n' : Nat → Option Blk} {w w' : World} (h : Adv m w m' w') (hn : ∀ p b, n' p = some b → m' p = some b) : Adv m w n' w' :=
  ⟨h.os, h.output, h.tape, h.size, h.heap, fun k hk => by
    obtain ⟨p, b, h1, h2, h3⟩ := hk
    exact h.names k ⟨p, b, hn p b h1, h2, h3⟩, fun p b hb ho => h.ro p b (hn p b hb) ho⟩

theorem Adv.drew {m m' : Nat → Option Blk} {w w' : World} (h : Adv m w.drew m' w') : Adv m w m' w' :=
  ⟨h.os, h.output, h.tape, h.size, h.heap, h.names, h.ro⟩

theorem cell?_of_heap {w w' : World} {a : Addr} (h : w'.heap[a.block]? = w.heap[a.block]?) : w'.cell? a = w.cell? a := by
  simp [World.cell?, h]
theorem frozen?_of_heap {w w' : World} {a : Addr} (h : w'.heap[a.block]? = w.heap[a.block]?) : w'.frozen? a = w.frozen? a := by
  simp [World.frozen?, h]

theorem Holds.of_heap {b : Blk} {w w' : World} (h : Holds b w) (hs : w.heap.size ≤ w'.heap.size) (he : w'.heap[b.name]? = w.heap[b.name]?) : Holds b w' where
  lt := Nat.lt_of_lt_of_le h.lt hs
  cell o v ho := by rw [cell?_of_heap (w := w) he]; exact h.cell o v ho
  free hb o v ho := by rw [frozen?_of_heap (w := w) he]; exact h.free hb o v ho

/-! ### what runs without looking at the world -/
def pureRun {α : Type} (P : Program) : Sem α → Option α
  | .pure a => some a
  | .program k => pureRun P (k P)
  | .mark _ k => pureRun P k
  | _ => none

theorem pureRun_run {α : Type} {P : Program} {s : Sem α} {a : α} (h : pureRun P s = some a) (w : World) : s.run P w = .ok a w := by
  induction s with
  | pure x => simp [pureRun] at h; simp [Sem.run, h]
  | program k ih => simp only [pureRun] at h; simp only [Sem.run]; exact ih P h
  | mark m k ih => simp only [pureRun] at h; simp only [Sem.run]; exact ih h
  | _ => simp [pureRun] at h

/-! ### where in a block -/
inductive Loc where
  | lit (o : Nat)
  | tab (i j : Nat)

def Cont.off : Cont → Loc → Nat
  | _, .lit o => o
  | .tab _ sz _, .tab i j => i * sz + j
  | .lit _, .tab _ j => j

def Cont.cond : Cont → Loc → Prop
  | .tab n _ _, .tab i _ => i < n
  | _, _ => True

def Cont.load : Cont → Loc → Nat → Option (List Value)
  | .lit l, .lit o, n => match Nat.beq ((l.drop o).take n).length n with
    | true => some ((l.drop o).take n)
    | false => none
  | .tab _ sz f, .tab i j, n => match Nat.beq (((f i).drop j).take n).length n && Nat.ble (j + n) sz with
    | true => some (((f i).drop j).take n)
    | false => none
  | _, _, _ => none

theorem Cont.get_tab {n sz : Nat} {f : Nat → List Value} {o : Nat} (h : o < n * sz) : (Cont.tab n sz f).get o = (f (o / sz))[o % sz]? := by
  simp [Cont.get, h]
theorem Cont.get_tab_out {n sz : Nat} {f : Nat → List Value} {o : Nat} (h : ¬ o < n * sz) : (Cont.tab n sz f).get o = none := by
  simp [Cont.get, h]

theorem Cont.load_get {c : Cont} {l : Loc} {n : Nat} {cs : List Value} (h : c.load l n = some cs) (hc : c.cond l) :
    cs.length = n ∧ ∀ k, k < n → c.get (c.off l + k) = cs[k]? := by
  cases c with
  | lit x =>
    cases l with
    | lit o =>
      simp only [Cont.load] at h
      split at h
      · rename_i hb
        have hl : ((x.drop o).take n).length = n := Nat.eq_of_beq_eq_true hb
        injection h with h; subst h
        refine ⟨hl, fun k hk => ?_⟩
        simp only [Cont.get, Cont.off]
        rw [List.getElem?_take_of_lt hk, List.getElem?_drop]
      · cases h
    | tab i j => simp [Cont.load] at h
  | tab m sz f =>
    cases l with
    | lit o => simp [Cont.load] at h
    | tab i j =>
      simp only [Cont.load] at h
      split at h
      · rename_i hb
        simp only [Bool.and_eq_true] at hb
        have hl : (((f i).drop j).take n).length = n := Nat.eq_of_beq_eq_true hb.1
        have hj : j + n ≤ sz := Nat.le_of_ble_eq_true hb.2
        injection h with h; subst h
        refine ⟨hl, fun k hk => ?_⟩
        show (Cont.tab m sz f).get (i * sz + j + k) = _
        have hi : i < m := hc
        have h1 : i * sz + j + k < m * sz := by
          have : (i + 1) * sz ≤ m * sz := Nat.mul_le_mul_right _ hi
          rw [Nat.succ_mul] at this
          omega
        have hjk : j + k < sz := by omega
        have hsz : 0 < sz := by omega
        have e0 : i * sz + j + k = sz * i + (j + k) := by rw [Nat.mul_comm, Nat.add_assoc]
        have e1 : (i * sz + j + k) / sz = i := by
          rw [e0, Nat.mul_add_div hsz, Nat.div_eq_of_lt hjk, Nat.add_zero]
        have e2 : (i * sz + j + k) % sz = j + k := by
          rw [e0, Nat.mul_add_mod, Nat.mod_eq_of_lt hjk]
        rw [Cont.get_tab h1, e1, e2, List.getElem?_take_of_lt hk, List.getElem?_drop]
      · cases h

def splice (l : List Value) (o : Nat) (cs : List Value) : List Value := l.take o ++ cs ++ l.drop (o + cs.length)

theorem splice_get (l : List Value) (o : Nat) (cs : List Value) (h : o + cs.length ≤ l.length) (k : Nat) :
    (splice l o cs)[k]? = if o ≤ k ∧ k < o + cs.length then cs[k - o]? else l[k]? := by
  unfold splice
  have h1 : (l.take o).length = o := by simp; omega
  by_cases hk : k < o
  · rw [if_neg (by omega), List.append_assoc, List.getElem?_append_left (by omega), List.getElem?_take_of_lt hk]
  · by_cases hk2 : k < o + cs.length
    · rw [if_pos (by omega), List.append_assoc, List.getElem?_append_right (by omega), h1, List.getElem?_append_left (by omega)]
    · rw [if_neg (by omega), List.getElem?_append_right (by simp; omega), List.getElem?_drop]
      congr 1
      simp
      omega

theorem splice_length (l : List Value) (o : Nat) (cs : List Value) (h : o + cs.length ≤ l.length) : (splice l o cs).length = l.length := by
  unfold splice; simp; omega

def Cont.store : Cont → Loc → List Value → Option Cont
  | .lit l, .lit o, cs => match Nat.ble (o + cs.length) l.length with
    | true => some (.lit (splice l o cs))
    | false => none
  | .tab n sz f, .tab i j, cs => match Nat.ble (j + cs.length) sz && Nat.beq (f i).length sz with
    | true => some (.tab n sz fun k => if k = i then splice (f i) j cs else f k)
    | false => none
  | _, _, _ => none

theorem Cont.store_get {c c' : Cont} {l : Loc} {cs : List Value} (h : c.store l cs = some c') (hc : c.cond l) :
    (∀ k, k < cs.length → ∃ v, c.get (c.off l + k) = some v) ∧
    ∀ k, c'.get k = if c.off l ≤ k ∧ k < c.off l + cs.length then cs[k - c.off l]? else c.get k := by
  cases c with
  | lit x =>
    cases l with
    | tab i j => simp [Cont.store] at h
    | lit o =>
      simp only [Cont.store] at h
      split at h
      · rename_i hb
        have hle : o + cs.length ≤ x.length := Nat.le_of_ble_eq_true hb
        injection h with h; subst h
        refine ⟨fun k hk => ?_, fun k => ?_⟩
        · simp only [Cont.get, Cont.off]
          exact ⟨x[o + k], List.getElem?_eq_getElem (by omega)⟩
        · simp only [Cont.get, Cont.off]
          exact splice_get x o cs hle k
      · cases h
  | tab n sz f =>
    cases l with
    | lit o => simp [Cont.store] at h
    | tab i j =>
      simp only [Cont.store] at h
      split at h
      · rename_i hb
        simp only [Bool.and_eq_true] at hb
        have hle : j + cs.length ≤ sz := Nat.le_of_ble_eq_true hb.1
        have hlen : (f i).length = sz := Nat.eq_of_beq_eq_true hb.2
        injection h with h; subst h
        have hi : i < n := hc
        have hn : (i + 1) * sz ≤ n * sz := Nat.mul_le_mul_right _ hi
        rw [Nat.succ_mul] at hn
        refine ⟨fun k hk => ?_, fun k => ?_⟩
        · show ∃ v, (Cont.tab n sz f).get (i * sz + j + k) = some v
          have hsz : 0 < sz := by omega
          have e0 : i * sz + j + k = sz * i + (j + k) := by rw [Nat.mul_comm, Nat.add_assoc]
          have hjk : j + k < sz := by omega
          rw [Cont.get_tab (by omega), e0, Nat.mul_add_div hsz, Nat.div_eq_of_lt hjk, Nat.add_zero, Nat.mul_add_mod, Nat.mod_eq_of_lt hjk]
          exact ⟨(f i)[j + k], List.getElem?_eq_getElem (by omega)⟩
        · show (Cont.tab n sz fun k => if k = i then splice (f i) j cs else f k).get k = if i * sz + j ≤ k ∧ k < i * sz + j + cs.length then cs[k - (i * sz + j)]? else (Cont.tab n sz f).get k
          by_cases hk : k < n * sz
          · have hsz : 0 < sz := by
              rcases Nat.eq_zero_or_pos sz with h0 | h0
              · subst h0; simp at hk
              · exact h0
            have hdm := Nat.div_add_mod k sz
            have hmod := Nat.mod_lt k hsz
            by_cases hki : k / sz = i
            · have ek : k = i * sz + k % sz := by rw [← hki, Nat.mul_comm]; omega
              have e1 : (i * sz + j ≤ k ∧ k < i * sz + j + cs.length) ↔ (j ≤ k % sz ∧ k % sz < j + cs.length) := by omega
              have e2 : k - (i * sz + j) = k % sz - j := by omega
              rw [Cont.get_tab hk, Cont.get_tab hk, hki, if_pos rfl, splice_get _ _ _ (by omega)]
              by_cases hc1 : j ≤ k % sz ∧ k % sz < j + cs.length
              · rw [if_pos hc1, if_pos (e1.2 hc1), e2]
              · rw [if_neg hc1, if_neg (fun h => hc1 (e1.1 h))]
            · rw [Cont.get_tab hk, Cont.get_tab hk, if_neg hki, if_neg]
              intro hc1
              apply hki
              have : k = sz * i + (k - i * sz) := by rw [Nat.mul_comm]; omega
              rw [this, Nat.mul_add_div hsz, Nat.div_eq_of_lt (by omega), Nat.add_zero]
          · rw [Cont.get_tab_out hk, Cont.get_tab_out hk, if_neg]
            intro hc1
            omega
      · cases h

end Go.Eng
