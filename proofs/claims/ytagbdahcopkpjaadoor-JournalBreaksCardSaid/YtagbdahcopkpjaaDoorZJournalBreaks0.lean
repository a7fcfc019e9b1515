/-
  Many in one: EngA, EngB, EngC, EngD, EngE, EngF, EngG, EngH.
-/
import Derived.Calls
import Derived.Laws.Cells
import Derived.Laws.Entries
import Derived.Laws.IdiomCopy
import Derived.Laws.World
import Derived.Orders
section
namespace Go.Eng
inductive OC where
  | m (es : Array MapEntry)
  | o (x : Obj)
def OC.obj : OC → Nat → Obj
  | .m es, c => .map es c
  | .o x, _ => x
instance : Coe (Array MapEntry) OC := ⟨.m⟩
inductive Piece where
  | row (n sz : Nat) (f : Nat → List Value)
  | obj (es : OC) (clock : Nat)
inductive Cont where
  | lit (l : List Value)
  | tab (n sz : Nat) (f : Nat → List Value)
  | map (es : OC) (clock : Nat)
  | pile (n : Nat) (g : Nat → Option (Nat × Piece))
def Piece.cont : Piece → Cont
  | .row n sz f => .tab n sz f
  | .obj es c => .map es c
def Cont.get : Cont → Nat → Option Value
  | .lit l, o => l[o]?
  | .tab n sz f, o => if o < n * sz then (f (o / sz))[o % sz]? else none
  | .map _ _, _ => none
  | .pile _ _, _ => none
def Cont.isMap : Cont → Bool
  | .map _ _ => true
  | .pile _ _ => true
  | _ => false
structure Blk where
  name : Nat
  own : Bool
  base : Nat
  cont : Cont
def Cont.has (nm : Nat) : Cont → Nat → Prop
  | .pile n g, k => ∃ i p, i < n ∧ g i = some (k, p)
  | _, k => nm = k
def Blk.has (b : Blk) (k : Nat) : Prop := b.cont.has b.name k
structure PieceOk (k : Nat) (own : Bool) (p : Piece) (w : World) : Prop where
  lt : k < w.heap.size
  cell : ∀ o v, p.cont.get o = some v → w.cell? ⟨k, 0 + o, none⟩ = some v
  free : own = true → ∀ o v, p.cont.get o = some v → w.frozen? ⟨k, 0 + o, none⟩ = false
  obj : ∀ es c, p = .obj es c → w.heap[k]? = some (es.obj c)
def Cont.ObjOk (nm : Nat) (own : Bool) (w : World) : Cont → Prop
  | .map es c => w.heap[nm]? = some (es.obj c)
  | .pile n g => ∀ i k p, i < n → g i = some (k, p) → PieceOk k own p w
  | _ => True
structure Holds (b : Blk) (w : World) : Prop where
  lt : b.name < w.heap.size
  cell : ∀ o v, b.cont.get o = some v → w.cell? ⟨b.name, b.base + o, none⟩ = some v
  free : b.own = true → ∀ o v, b.cont.get o = some v → w.frozen? ⟨b.name, b.base + o, none⟩ = false
  obj : b.cont.ObjOk b.name b.own w
theorem obj_not {c : Cont} {nm : Nat} {own : Bool} {w : World} (h : c.isMap = false) : c.ObjOk nm own w := by cases c <;> first | trivial | cases h
theorem Holds.objm {b : Blk} {w : World} (h : Holds b w) {es : OC} {c : Nat} (e : b.cont = .map es c) : w.heap[b.name]? = some (es.obj c) := by
  have := h.obj; rw [e] at this; exact this
theorem has_not {b : Blk} (h : b.cont.isMap = false) {k : Nat} : b.has k ↔ b.name = k := by
  unfold Blk.has; cases e : b.cont <;> first | exact Iff.rfl | (rw [e] at h; cases h)
theorem has_map {b : Blk} {es : OC} {c : Nat} (e : b.cont = .map es c) {k : Nat} : b.has k ↔ b.name = k := by
  unfold Blk.has; rw [e]; exact Iff.rfl
theorem get_not {c : Cont} {o : Nat} {v : Value} (h : c.get o = some v) : c.isMap = false := by cases c <;> first | rfl | cases h
theorem Holds.has_lt {b : Blk} {w : World} (h : Holds b w) {k : Nat} (hk : b.has k) : k < w.heap.size := by
  unfold Blk.has at hk
  have ho := h.obj
  cases e : b.cont <;> rw [e] at hk ho
  case pile => obtain ⟨i, p, h1, h2⟩ := hk; exact (ho i k p h1 h2).lt
  all_goals (have : b.name = k := hk; rw [← this]; exact h.lt)
inductive EV where
  | v (x : Value)
  | c (g : Bool) (x : Value)
def EV.den : EV → Value
  | .v x => x
  | .c g x => match g with
    | true => x
    | false => undef
def EV.val : EV → Value
  | .v x => x
  | .c _ x => x
structure FSt where
  env : Nat → Option EV
  mem : Nat → Option Blk
def Apart (m : Nat → Option Blk) : Prop :=
  ∀ p q b c, p ≠ q → m p = some b → m q = some c → b.own = true → ∀ k, b.has k → ¬ c.has k
def Owns (m : Nat → Option Blk) (k : Nat) : Prop := ∃ p b, m p = some b ∧ b.own = true ∧ b.has k
def Marks (B : Nat) (m : Nat → Option Blk) (w : World) (l : List Deferred) : Prop :=
  B ≤ w.heap.size ∧ ∃ D : List Nat, D.Nodup ∧ l = D.map (fun r => { target := .collected r, args := #[] }) ∧ ∀ r ∈ D, B ≤ r ∧ w.heap[r]? = some (.deferred (some [])) ∧ ¬ Owns m r
theorem Marks.none {B : Nat} {m : Nat → Option Blk} {w : World} (hB : B ≤ w.heap.size) : Marks B m w [] := ⟨hB, [], List.nodup_nil, rfl, fun r hr => by cases hr⟩
theorem Marks.sub {B : Nat} {m m' : Nat → Option Blk} {w : World} {l : List Deferred} (h : Marks B m w l) (hs : ∀ k, Owns m' k → Owns m k) : Marks B m' w l := by
  obtain ⟨h0, D, h1, h2, h3⟩ := h
  exact ⟨h0, D, h1, h2, fun r hr => ⟨(h3 r hr).1, (h3 r hr).2.1, fun ho => (h3 r hr).2.2 (hs r ho)⟩⟩
structure Sat (ds : Nat) (nt : Nat) (s : FSt) (a : Act) (w : World) : Prop where
  defers : Marks ds s.mem w a.defers
  size : a.tmps.size = nt
  env : ∀ t e, s.env t = some e → a.tmps[t]? = some e.den
  mem : ∀ p b, s.mem p = some b → Holds b w
  apart : Apart s.mem
structure Adv (m : Nat → Option Blk) (w : World) (m' : Nat → Option Blk) (w' : World) : Prop where
  os : w'.os = w.os
  output : w'.output = w.output
  tape : w'.tape = w.tape
  size : w.heap.size ≤ w'.heap.size
  heap : ∀ k, k < w.heap.size → ¬ Owns m k → w'.heap[k]? = w.heap[k]?
  names : ∀ k, Owns m' k → Owns m k ∨ w.heap.size ≤ k
  ro : ∀ p b, m' p = some b → b.own = false → m p = some b
theorem Adv.refl (m : Nat → Option Blk) (w : World) : Adv m w m w :=
  ⟨rfl, rfl, rfl, Nat.le_refl _, fun _ _ _ => rfl, fun _ h => .inl h, fun _ _ h _ => h⟩
theorem Adv.trans {m m' m'' : Nat → Option Blk} {w w' w'' : World} (h : Adv m w m' w') (k : Adv m' w' m'' w'') : Adv m w m'' w'' where
  os := k.os.trans h.os
  output := k.output.trans h.output
  tape := k.tape.trans h.tape
  size := Nat.le_trans h.size k.size
  heap i hi hn := by
    have : ¬ Owns m' i := fun ho => by
      rcases h.names i ho with h1 | h1
      · exact hn h1
      · omega
    exact (k.heap i (Nat.lt_of_lt_of_le hi h.size) this).trans (h.heap i hi hn)
  names i hi := by
    rcases k.names i hi with h1 | h1
    · exact h.names i h1
    · exact .inr (Nat.le_trans h.size h1)
  ro p b hb ho := h.ro p b (k.ro p b hb ho) ho
theorem Marks.adv {B : Nat} {m m' : Nat → Option Blk} {w w' : World} {l : List Deferred} (h : Marks B m w l) (ha : Adv m w m' w') : Marks B m' w' l := by
  obtain ⟨h0, D, h1, h2, h3⟩ := h
  refine ⟨Nat.le_trans h0 ha.size, D, h1, h2, fun r hr => ?_⟩
  obtain ⟨k1, k2, k3⟩ := h3 r hr
  have hlt : r < w.heap.size := (Array.getElem?_eq_some_iff.1 k2).1
  refine ⟨k1, (ha.heap r hlt k3).trans k2, fun ho => ?_⟩
  rcases ha.names r ho with h4 | h4
  · exact k3 h4
  · omega
theorem Adv.weak {m m' n' : Nat → Option Blk} {w w' : World} (h : Adv m w m' w') (hn : ∀ p b, n' p = some b → m' p = some b) : Adv m w n' w' :=
  ⟨h.os, h.output, h.tape, h.size, h.heap, fun k hk => by
    obtain ⟨p, b, h1, h2, h3⟩ := hk
    exact h.names k ⟨p, b, hn p b h1, h2, h3⟩, fun p b hb ho => h.ro p b (hn p b hb) ho⟩
theorem Adv.drew {m m' : Nat → Option Blk} {w w' : World} (h : Adv m w.drew m' w') : Adv m w m' w' :=
  ⟨h.os, h.output, h.tape, h.size, h.heap, h.names, h.ro⟩
theorem cell?_of_heap {w w' : World} {a : Addr} (h : w'.heap[a.block]? = w.heap[a.block]?) : w'.cell? a = w.cell? a := by
  simp [World.cell?, h]
theorem frozen?_of_heap {w w' : World} {a : Addr} (h : w'.heap[a.block]? = w.heap[a.block]?) : w'.frozen? a = w.frozen? a := by
  simp [World.frozen?, h]
theorem PieceOk.of_heap {k : Nat} {own : Bool} {p : Piece} {w w' : World} (h : PieceOk k own p w) (hs : w.heap.size ≤ w'.heap.size) (he : w'.heap[k]? = w.heap[k]?) : PieceOk k own p w' where
  lt := Nat.lt_of_lt_of_le h.lt hs
  cell o v ho := by rw [cell?_of_heap (w := w) he]; exact h.cell o v ho
  free hb o v ho := by rw [frozen?_of_heap (w := w) he]; exact h.free hb o v ho
  obj es c hc := by rw [he]; exact h.obj es c hc
theorem Holds.of_heap {b : Blk} {w w' : World} (h : Holds b w) (hs : w.heap.size ≤ w'.heap.size) (he : ∀ k, b.has k → w'.heap[k]? = w.heap[k]?) : Holds b w' where
  lt := Nat.lt_of_lt_of_le h.lt hs
  cell o v ho := by rw [cell?_of_heap (w := w) (he _ ((has_not (get_not ho)).2 rfl))]; exact h.cell o v ho
  free hb o v ho := by rw [frozen?_of_heap (w := w) (he _ ((has_not (get_not ho)).2 rfl))]; exact h.free hb o v ho
  obj := by
    have ho := h.obj
    unfold Blk.has at he
    cases e : b.cont <;> rw [e] at ho he
    case map es c => show _ = _; rw [he _ rfl]; exact ho
    case pile n g => exact fun i k p h1 h2 => (ho i k p h1 h2).of_heap hs (he k ⟨i, p, h1, h2⟩)
    all_goals trivial
theorem ObjOk.ro {c : Cont} {nm : Nat} {own : Bool} {w : World} (ho : c.ObjOk nm own w) : c.ObjOk nm false w := by
  cases c
  case map es c => exact ho
  case pile n g => exact fun i k p h1 h2 => ⟨(ho i k p h1 h2).lt, (ho i k p h1 h2).cell, (fun h => by cases h), (ho i k p h1 h2).obj⟩
  all_goals trivial
theorem Holds.ro {b : Blk} {w : World} (h : Holds b w) : Holds { b with own := false } w := ⟨h.lt, h.cell, (fun h => by cases h), ObjOk.ro h.obj⟩
def pureRun {α : Type} (P : Program) : Sem α → Option α
  | .pure a => some a
  | .program k => pureRun P (k P)
  | .mark _ k => pureRun P k
  | _ => none
theorem pureRun_run {α : Type} {P : Program} {s : Sem α} {a : α} (h : pureRun P s = some a) (w : World) : s.run P w = .ok a w := by
  induction s with
  | pure x => simp [pureRun] at h; simp [Sem.run, h]
  | program k ih => simp only [pureRun] at h; simp only [Sem.run]; exact ih P h
  | mark m k ih => simp only [pureRun] at h; simp only [Sem.run]; exact ih h
  | _ => simp [pureRun] at h
inductive Loc where
  | lit (o : Nat)
  | tab (i j : Nat)
def Cont.off : Cont → Loc → Nat
  | _, .lit o => o
  | .tab _ sz _, .tab i j => i * sz + j
  | .lit _, .tab _ j => j
  | .map _ _, .tab _ j => j
  | .pile _ _, .tab _ j => j
def Cont.cond : Cont → Loc → Prop
  | .tab n _ _, .tab i _ => i < n
  | _, _ => True
def Cont.load : Cont → Loc → Nat → Option (List Value)
  | .lit l, .lit o, n => match Nat.beq ((l.drop o).take n).length n with
    | true => some ((l.drop o).take n)
    | false => none
  | .tab _ sz f, .tab i j, n => match Nat.beq (((f i).drop j).take n).length n && Nat.ble (j + n) sz with
    | true => some (((f i).drop j).take n)
    | false => none
  | _, _, _ => none
theorem Cont.get_tab {n sz : Nat} {f : Nat → List Value} {o : Nat} (h : o < n * sz) : (Cont.tab n sz f).get o = (f (o / sz))[o % sz]? := by
  simp [Cont.get, h]
theorem Cont.get_tab_out {n sz : Nat} {f : Nat → List Value} {o : Nat} (h : ¬ o < n * sz) : (Cont.tab n sz f).get o = none := by
  simp [Cont.get, h]
theorem Cont.load_get {c : Cont} {l : Loc} {n : Nat} {cs : List Value} (h : c.load l n = some cs) (hc : c.cond l) :
    cs.length = n ∧ ∀ k, k < n → c.get (c.off l + k) = cs[k]? := by
  cases c with
  | lit x =>
    cases l with
    | lit o =>
      simp only [Cont.load] at h
      split at h
      · rename_i hb
        have hl : ((x.drop o).take n).length = n := Nat.eq_of_beq_eq_true hb
        injection h with h; subst h
        refine ⟨hl, fun k hk => ?_⟩
        simp only [Cont.get, Cont.off]
        rw [List.getElem?_take_of_lt hk, List.getElem?_drop]
      · cases h
    | tab i j => simp [Cont.load] at h
  | tab m sz f =>
    cases l with
    | lit o => simp [Cont.load] at h
    | tab i j =>
      simp only [Cont.load] at h
      split at h
      · rename_i hb
        simp only [Bool.and_eq_true] at hb
        have hl : (((f i).drop j).take n).length = n := Nat.eq_of_beq_eq_true hb.1
        have hj : j + n ≤ sz := Nat.le_of_ble_eq_true hb.2
        injection h with h; subst h
        refine ⟨hl, fun k hk => ?_⟩
        show (Cont.tab m sz f).get (i * sz + j + k) = _
        have hi : i < m := hc
        have h1 : i * sz + j + k < m * sz := by
          have : (i + 1) * sz ≤ m * sz := Nat.mul_le_mul_right _ hi
          rw [Nat.succ_mul] at this
          omega
        have hjk : j + k < sz := by omega
        have hsz : 0 < sz := by omega
        have e0 : i * sz + j + k = sz * i + (j + k) := by rw [Nat.mul_comm, Nat.add_assoc]
        have e1 : (i * sz + j + k) / sz = i := by
          rw [e0, Nat.mul_add_div hsz, Nat.div_eq_of_lt hjk, Nat.add_zero]
        have e2 : (i * sz + j + k) % sz = j + k := by
          rw [e0, Nat.mul_add_mod, Nat.mod_eq_of_lt hjk]
        rw [Cont.get_tab h1, e1, e2, List.getElem?_take_of_lt hk, List.getElem?_drop]
      · cases h
  | map es c => cases l <;> simp [Cont.load] at h
  | pile n g => cases l <;> simp [Cont.load] at h
def splice (l : List Value) (o : Nat) (cs : List Value) : List Value := l.take o ++ cs ++ l.drop (o + cs.length)
theorem splice_get (l : List Value) (o : Nat) (cs : List Value) (h : o + cs.length ≤ l.length) (k : Nat) :
    (splice l o cs)[k]? = if o ≤ k ∧ k < o + cs.length then cs[k - o]? else l[k]? := by
  unfold splice
  have h1 : (l.take o).length = o := by simp; omega
  by_cases hk : k < o
  · rw [if_neg (by omega), List.append_assoc, List.getElem?_append_left (by omega), List.getElem?_take_of_lt hk]
  · by_cases hk2 : k < o + cs.length
    · rw [if_pos (by omega), List.append_assoc, List.getElem?_append_right (by omega), h1, List.getElem?_append_left (by omega)]
    · rw [if_neg (by omega), List.getElem?_append_right (by simp; omega), List.getElem?_drop]
      congr 1
      simp
      omega
def Cont.store : Cont → Loc → List Value → Option Cont
  | .lit l, .lit o, cs => match Nat.ble (o + cs.length) l.length with
    | true => some (.lit (splice l o cs))
    | false => none
  | .tab n sz f, .tab i j, cs => match Nat.ble (j + cs.length) sz && Nat.beq (f i).length sz with
    | true => some (.tab n sz fun k => if k = i then splice (f i) j cs else f k)
    | false => none
  | _, _, _ => none
theorem Cont.store_get {c c' : Cont} {l : Loc} {cs : List Value} (h : c.store l cs = some c') (hc : c.cond l) :
    (∀ k, k < cs.length → ∃ v, c.get (c.off l + k) = some v) ∧
    ∀ k, c'.get k = if c.off l ≤ k ∧ k < c.off l + cs.length then cs[k - c.off l]? else c.get k := by
  cases c with
  | lit x =>
    cases l with
    | tab i j => simp [Cont.store] at h
    | lit o =>
      simp only [Cont.store] at h
      split at h
      · rename_i hb
        have hle : o + cs.length ≤ x.length := Nat.le_of_ble_eq_true hb
        injection h with h; subst h
        refine ⟨fun k hk => ?_, fun k => ?_⟩
        · simp only [Cont.get, Cont.off]
          exact ⟨x[o + k], List.getElem?_eq_getElem (by omega)⟩
        · simp only [Cont.get, Cont.off]
          exact splice_get x o cs hle k
      · cases h
  | tab n sz f =>
    cases l with
    | lit o => simp [Cont.store] at h
    | tab i j =>
      simp only [Cont.store] at h
      split at h
      · rename_i hb
        simp only [Bool.and_eq_true] at hb
        have hle : j + cs.length ≤ sz := Nat.le_of_ble_eq_true hb.1
        have hlen : (f i).length = sz := Nat.eq_of_beq_eq_true hb.2
        injection h with h; subst h
        have hi : i < n := hc
        have hn : (i + 1) * sz ≤ n * sz := Nat.mul_le_mul_right _ hi
        rw [Nat.succ_mul] at hn
        refine ⟨fun k hk => ?_, fun k => ?_⟩
        · show ∃ v, (Cont.tab n sz f).get (i * sz + j + k) = some v
          have hsz : 0 < sz := by omega
          have e0 : i * sz + j + k = sz * i + (j + k) := by rw [Nat.mul_comm, Nat.add_assoc]
          have hjk : j + k < sz := by omega
          rw [Cont.get_tab (by omega), e0, Nat.mul_add_div hsz, Nat.div_eq_of_lt hjk, Nat.add_zero, Nat.mul_add_mod, Nat.mod_eq_of_lt hjk]
          exact ⟨(f i)[j + k], List.getElem?_eq_getElem (by omega)⟩
        · show (Cont.tab n sz fun k => if k = i then splice (f i) j cs else f k).get k = if i * sz + j ≤ k ∧ k < i * sz + j + cs.length then cs[k - (i * sz + j)]? else (Cont.tab n sz f).get k
          by_cases hk : k < n * sz
          · have hsz : 0 < sz := by
              rcases Nat.eq_zero_or_pos sz with h0 | h0
              · subst h0; simp at hk
              · exact h0
            have hdm := Nat.div_add_mod k sz
            have hmod := Nat.mod_lt k hsz
            by_cases hki : k / sz = i
            · have ek : k = i * sz + k % sz := by rw [← hki, Nat.mul_comm]; omega
              have e1 : (i * sz + j ≤ k ∧ k < i * sz + j + cs.length) ↔ (j ≤ k % sz ∧ k % sz < j + cs.length) := by omega
              have e2 : k - (i * sz + j) = k % sz - j := by omega
              rw [Cont.get_tab hk, Cont.get_tab hk, hki, if_pos rfl, splice_get _ _ _ (by omega)]
              by_cases hc1 : j ≤ k % sz ∧ k % sz < j + cs.length
              · rw [if_pos hc1, if_pos (e1.2 hc1), e2]
              · rw [if_neg hc1, if_neg (fun h => hc1 (e1.1 h))]
            · rw [Cont.get_tab hk, Cont.get_tab hk, if_neg hki, if_neg]
              intro hc1
              apply hki
              have : k = sz * i + (k - i * sz) := by rw [Nat.mul_comm]; omega
              rw [this, Nat.mul_add_div hsz, Nat.div_eq_of_lt (by omega), Nat.add_zero]
          · rw [Cont.get_tab_out hk, Cont.get_tab_out hk, if_neg]
            intro hc1
            omega
      · cases h
  | map es c => cases l <;> simp [Cont.store] at h
  | pile n g => cases l <;> simp [Cont.store] at h
theorem Cont.store_src {c c' : Cont} {l : Loc} {cs : List Value} (h : c.store l cs = some c') : c.isMap = false := by
  cases c <;> first | rfl | (cases l <;> simp [Cont.store] at h)
theorem Cont.store_notmap {c c' : Cont} {l : Loc} {cs : List Value} (h : c.store l cs = some c') : c'.isMap = false := by
  unfold Cont.store at h
  repeat' (first | (injection h with h; subst h; rfl) | (cases h; done) | split at h)
end Go.Eng
end
section
namespace Go.Eng
def look {β : Type} : List (Nat × β) → Nat → Option β
  | [], _ => none
  | (k, v) :: r, t => match Nat.beq k t with
    | true => some v
    | false => look r t
def memApply (m : Nat → Option Blk) (upd : List (Nat × Option Blk)) : Nat → Option Blk :=
  fun p => match look upd p with
    | some ob => ob
    | none => m p
def listMem (l : List (Option Blk)) : Nat → Option Blk := fun p => match l[p]? with
  | some ob => ob
  | none => none
structure Post (m : Nat → Option Blk) (w : World) (m' : Nat → Option Blk) (w' : World) : Prop where
  holds : ∀ p b, m' p = some b → Holds b w'
  apart : Apart m'
  adv : Adv m w m' w'
theorem Post.refl {m : Nat → Option Blk} {w : World} (h : ∀ p b, m p = some b → Holds b w) (ha : Apart m) : Post m w m w :=
  ⟨h, ha, .refl m w⟩
def Runs (P : Program) (f : FuncId) (args : List Value) (bs : List Blk) (k : Nat) (v : List Nat → Value) (out : List Nat → List (Option Blk)) : Prop :=
  ∀ w, (∀ b ∈ bs, Holds b w) → Apart (listMem (bs.map some)) → Calls P f args.toArray w fun e w' =>
    ∃ ns, ns.length = k ∧ e = .returned (v ns) ∧ Post (listMem (bs.map some)) w (listMem (out ns)) w'
def SRuns (P : Program) (s : Sem Next) (bs : List Blk) (k : Nat) (v : List Nat → Value) (out : List Nat → List (Option Blk)) : Prop :=
  ∀ w, (∀ b ∈ bs, Holds b w) → Apart (listMem (bs.map some)) → ∃ ns w', ns.length = k ∧
    (s.run P w = .ok (.value (v ns)) w' ∨ (s.run P w = .ok .skip w' ∧ v ns = undef)) ∧ Post (listMem (bs.map some)) w (listMem (out ns)) w'
def Fam (F : Blk → Prop) (m : Nat → Option Blk) (w : World) : Prop := ∀ b, F b → Holds b w ∧ b.own = false ∧ ∀ k, b.has k → ¬ Owns m k
theorem Fam.adv {F : Blk → Prop} {m m' : Nat → Option Blk} {w w' : World} (h : Fam F m w) (ha : Adv m w m' w') : Fam F m' w' := fun b hb => by
  obtain ⟨h1, h2, h3⟩ := h b hb
  refine ⟨h1.of_heap ha.size fun k hk => ha.heap k (h1.has_lt hk) (h3 k hk), h2, fun k hk ho => ?_⟩
  rcases ha.names _ ho with h5 | h5
  · exact h3 k hk h5
  · have := h1.has_lt hk; omega
def RunsF (F : Blk → Prop) (P : Program) (f : FuncId) (args : List Value) (bs : List Blk) (k : Nat) (v : List Nat → Value) (out : List Nat → List (Option Blk)) : Prop :=
  ∀ w, (∀ b ∈ bs, Holds b w) → Apart (listMem (bs.map some)) → Fam F (listMem (bs.map some)) w → Calls P f args.toArray w fun e w' =>
    ∃ ns, ns.length = k ∧ e = .returned (v ns) ∧ Post (listMem (bs.map some)) w (listMem (out ns)) w'
def MRuns (F : Blk → Prop) (P : Program) (s : Sem Next) (bs : List Blk) (k : Nat) (v : List Nat → Value) (out : List Nat → List (Option Blk)) : Prop :=
  ∀ w, (∀ b ∈ bs, Holds b w) → Apart (listMem (bs.map some)) → Fam F (listMem (bs.map some)) w → ∃ f args, s.run P w = .ok (.enter f args) w ∧ Calls P f args w fun e w' =>
    ∃ ns, ns.length = k ∧ e = .returned (v ns) ∧ Post (listMem (bs.map some)) w (listMem (out ns)) w'
def roO : Option Blk → Option Blk
  | some b => some { b with own := false }
  | none => none
def RunsO (F : Blk → Prop) (P : Program) (f : FuncId) (args : List Value) (bs : List (Option Blk)) (k : Nat) (v : List Nat → Value) (out : List Nat → List (Option Blk)) : Prop :=
  ∀ w, (∀ p b, listMem bs p = some b → Holds b w) → Apart (listMem bs) → Fam F (listMem bs) w → Calls P f args.toArray w fun e w' =>
    ∃ ns, ns.length = k ∧ e = .returned (v ns) ∧ Post (listMem bs) w (listMem (out ns)) w'
def SRunsO (P : Program) (s : Sem Next) (bs : List (Option Blk)) (k : Nat) (v : List Nat → Value) (out : List Nat → List (Option Blk)) : Prop :=
  ∀ w, (∀ p b, listMem bs p = some b → Holds b w) → Apart (listMem bs) → ∃ ns w', ns.length = k ∧
    (s.run P w = .ok (.value (v ns)) w' ∨ (s.run P w = .ok .skip w' ∧ v ns = undef)) ∧ Post (listMem bs) w (listMem (out ns)) w'
def SRunsF (F : Blk → Prop) (P : Program) (s : Sem Next) (bs : List Blk) (k : Nat) (v : List Nat → Value) (out : List Nat → List (Option Blk)) : Prop :=
  ∀ w, (∀ b ∈ bs, Holds b w) → Apart (listMem (bs.map some)) → Fam F (listMem (bs.map some)) w → ∃ ns w', ns.length = k ∧
    (s.run P w = .ok (.value (v ns)) w' ∨ (s.run P w = .ok .skip w' ∧ v ns = undef)) ∧ Post (listMem (bs.map some)) w (listMem (out ns)) w'
def bsCells (z : Value) (size len : Nat) (parts : Array (Nat × Value)) : Option (Array Value) :=
  Instr.fill (fun i => some (i * size, size)) ((Array.range (len * size)).map (z.cells[· % z.cells.size]!)) parts.toList
inductive OpH where
  | g
  | as (v : Value)
  | asf (f : List Value → Value)
  | ld (p : Nat) (l : Loc)
  | st (p : Nat) (l : Loc)
  | stc (p : Nat) (l : Loc) (c : Cont)
  | upd (p : Nat) (c : Cont)
  | bsl
  | new
  | call (ps : List (Nat × Bool)) (k nb : Nat) (v : List Nat → Value) (out : List Nat → List (Option Blk))
  | callF (ps : List (Nat × Bool)) (k nb : Nat) (v : List Nat → Value) (out : List Nat → List (Option Blk))
  | callM (ps : List (Nat × Bool)) (k nb : Nat) (v : List Nat → Value) (out : List Nat → List (Option Blk))
  | callO (ps : List (Nat × Bool)) (k nb : Nat) (v : List Nat → Value) (out : List Nat → List (Option Blk))
  | othO (ps : List (Nat × Bool)) (k nb : Nat) (v : List Nat → Value) (out : List Nat → List (Option Blk))
  | pk
  | oth (ps : List (Nat × Bool)) (k nb : Nat) (v : List Nat → Value) (out : List Nat → List (Option Blk))
  | othB (ps : List (Nat × Bool)) (k nb : Nat) (v : List Nat → Value) (out : List Blk → List Nat → List (Option Blk))
  | othF (ps : List (Nat × Bool)) (k nb : Nat) (v : List Nat → Value) (out : List Nat → List (Option Blk))
  | othOB (ps : List (Nat × Bool)) (k nb : Nat) (v : List Nat → Value) (out : List (Option Blk) → List Nat → List (Option Blk))
  | run (h : OpH)
  | skip
  | opt (h : OpH)
def OpH.nn : OpH → Nat
  | .new => 1
  | .bsl => 1
  | .call _ k _ _ _ | .callF _ k _ _ _ | .callM _ k _ _ _ | .callO _ k _ _ _ | .othO _ k _ _ _ | .oth _ k _ _ _ | .othB _ k _ _ _ | .othF _ k _ _ _ | .othOB _ k _ _ _ => k
  | .run h | .opt h => h.nn
  | _ => 0
def OpH.nb : OpH → Nat
  | .new => 1
  | .bsl => 1
  | .call _ _ nb _ _ | .callF _ _ nb _ _ | .callM _ _ nb _ _ | .callO _ _ nb _ _ | .othO _ _ nb _ _ | .oth _ _ nb _ _ | .othB _ _ nb _ _ | .othF _ _ nb _ _ | .othOB _ _ nb _ _ => nb
  | .run h | .opt h => h.nb
  | _ => 0
def OpH.ps : OpH → List (Nat × Bool)
  | .ld p _ => [(p, true)]
  | .st p _ => [(p, false)]
  | .stc p _ _ => [(p, false)]
  | .upd p _ => [(p, false)]
  | .call ps _ _ _ _ | .callF ps _ _ _ _ | .callM ps _ _ _ _ | .callO ps _ _ _ _ | .othO ps _ _ _ _ | .oth ps _ _ _ _ | .othB ps _ _ _ _ | .othF ps _ _ _ _ | .othOB ps _ _ _ _ => ps
  | .run h | .opt h => h.ps
  | _ => []
structure Eff where
  val : Value
  upd : List (Nat × Option Blk)
def lendL (m : Nat → Option Blk) : List (Nat × Bool) → Option (List Blk)
  | [] => some []
  | (p, ro) :: r => match m p with
    | some b => match lendL m r with
      | some l => some ((match ro with | true => { b with own := false } | false => b) :: l)
      | none => none
    | none => none
def lendO (m : Nat → Option Blk) : List (Nat × Bool) → List (Option Blk)
  | [] => []
  | (p, ro) :: r => (match ro with | true => roO (m p) | false => m p) :: lendO m r
def outUpd : List (Nat × Bool) → Nat → List (Option Blk) → List (Nat × Option Blk)
  | _, _, [] => []
  | [], nx, b :: out => (nx, b) :: outUpd [] (nx + 1) out
  | (p, ro) :: r, nx, b :: out => match ro with
    | true => outUpd r nx out
    | false => (p, b) :: outUpd r nx out
def nodupPs : List (Nat × Bool) → Bool
  | [] => true
  | (p, _) :: r => r.all (fun x => !Nat.beq x.1 p) && nodupPs r
def sizeB (P : Program) (t : TypeId) : Option Nat := (P.info? t).map (·.size)
def aggB (P : Program) (t : TypeId) : Option Bool := match P.underlying t with
  | some (.struct _) => some true
  | some (.array _ _) => some true
  | some _ => some false
  | none => none
def newIn (ps : List (Nat × Bool)) (nb : Nat) (out : List (Option Blk)) : Bool := Nat.beq out.length (ps.length + nb)
def IsOp (P : Program) (op : Op) (vals : List Value) (v : Value) : Prop :=
  ∀ (ρ : Operand → Value) (o : Oper), o.op = op → o.op.operands.toList.map ρ = vals → pureRun P (execOp ρ o) = some (.value v)
def bslB (P : Program) (o : Oper) (ρ : Operand → Value) : Option (Nat × List Value) := match o.op with
  | .buildSlice t len parts => match P.underlying t with
    | some (.slice e) => match P.info? e with
      | some i => match i.zero with
        | some z => match bsCells z i.size len (parts.map fun (k, x) => (k, ρ x)) with
          | some cs => some (len, cs.toList)
          | none => none
        | none => none
      | none => none
    | _ => none
  | _ => none
def evCore (F : Blk → Prop) (P : Program) (o : Oper) (ρ : Operand → Value) (m : Nat → Option Blk) (nx : Nat) (ns : List Nat) : OpH → Option (Prop × Eff)
  | .g => match pureRun P (execOp ρ o) with
    | some (.value v) => some (True, ⟨v, []⟩)
    | some .skip => some (True, ⟨undef, []⟩)
    | _ => none
  | .as v => some (IsOp P o.op (o.op.operands.toList.map ρ) v, ⟨v, []⟩)
  | .asf f => some (IsOp P o.op (o.op.operands.toList.map ρ) (f (o.op.operands.toList.map ρ)), ⟨f (o.op.operands.toList.map ρ), []⟩)
  | .ld p l => match o.op with
    | .load t x => match m p with
      | some b => match sizeB P t with
        | some n => match b.cont.load l n with
          | some cs => match aggB P t with
            | some true => some (b.cont.cond l ∧ ρ x = .pointer (some ⟨b.name, b.base + b.cont.off l, none⟩), ⟨.agg cs.toArray, []⟩)
            | some false => match cs with
              | [v] => some (b.cont.cond l ∧ ρ x = .pointer (some ⟨b.name, b.base + b.cont.off l, none⟩), ⟨v, []⟩)
              | _ => none
            | none => none
          | none => none
        | none => none
      | none => none
    | _ => none
  | .st p l => match o.op with
    | .store t x y => match m p with
      | some b => match sizeB P t with
        | some n => match Nat.beq (ρ y).cells.toList.length n && (ρ y).cells.toList.all Value.oneCell' && b.own with
          | true => match b.cont.store l (ρ y).cells.toList with
            | some c => some (b.cont.cond l ∧ ρ x = .pointer (some ⟨b.name, b.base + b.cont.off l, none⟩), ⟨undef, [(p, some { b with cont := c })]⟩)
            | none => none
          | false => none
        | none => none
      | none => none
    | _ => none
  | .stc p l c => match o.op with
    | .store t x y => match m p with
      | some b => match sizeB P t with
        | some n => match Nat.beq (ρ y).cells.toList.length n && (ρ y).cells.toList.all Value.oneCell' && b.own with
          | true => some (b.cont.cond l ∧ ρ x = .pointer (some ⟨b.name, b.base + b.cont.off l, none⟩) ∧ b.cont.store l (ρ y).cells.toList = some c, ⟨undef, [(p, some { b with cont := c })]⟩)
          | false => none
        | none => none
      | none => none
    | _ => none
  | .upd p c => match m p with
    | some b => match b.own with
      | true => some (SRuns P (execOp ρ o) [b] 0 (fun _ => undef) (fun _ => [some { b with cont := c }]), ⟨undef, [(p, some { b with cont := c })]⟩)
      | false => none
    | none => none
  | .bsl => match bslB P o ρ with
    | some (len, cs) => some (SRuns P (execOp ρ o) [] 1 (fun ns => .slice (some ⟨ns.getD 0 0, 0, none⟩) len len) (fun ns => [some ⟨ns.getD 0 0, true, 0, .lit cs⟩]),
        ⟨.slice (some ⟨ns.getD 0 0, 0, none⟩) len len, [(nx, some ⟨ns.getD 0 0, true, 0, .lit cs⟩)]⟩)
    | none => none
  | .new => match ns with
    | [n] => match o.op with
      | .alloc t => match (P.info? t).bind (·.zero) with
        | some z => some (True, ⟨.pointer (some ⟨n, 0, none⟩), [(nx, some ⟨n, true, 0, .lit z.cells.toList⟩)]⟩)
        | none => none
      | .box _ x => some (True, ⟨.pointer (some ⟨n, 0, none⟩), [(nx, some ⟨n, true, 0, .lit (ρ x).cells.toList⟩)]⟩)
      | _ => none
    | _ => none
  | .call ps k nb v out => match pureRun P (execOp ρ o) with
    | some (.enter f args) => match lendL m ps with
      | some bs => match nodupPs ps && newIn ps nb (out ns) with
        | true => some (Runs P f args.toList bs k v out, ⟨v ns, outUpd ps nx (out ns)⟩)
        | false => none
      | none => none
    | _ => none
  | .callF ps k nb v out => match pureRun P (execOp ρ o) with
    | some (.enter f args) => match lendL m ps with
      | some bs => match nodupPs ps && newIn ps nb (out ns) with
        | true => some (RunsF F P f args.toList bs k v out, ⟨v ns, outUpd ps nx (out ns)⟩)
        | false => none
      | none => none
    | _ => none
  | .callM ps k nb v out => match lendL m ps with
    | some bs => match nodupPs ps && newIn ps nb (out ns) with
      | true => some (MRuns F P (execOp ρ o) bs k v out, ⟨v ns, outUpd ps nx (out ns)⟩)
      | false => none
    | none => none
  | .callO ps k nb v out => match pureRun P (execOp ρ o) with
    | some (.enter f args) => match nodupPs ps && newIn ps nb (out ns) with
      | true => some (RunsO F P f args.toList (lendO m ps) k v out, ⟨v ns, outUpd ps nx (out ns)⟩)
      | false => none
    | _ => none
  | .othO ps k nb v out => match nodupPs ps && newIn ps nb (out ns) with
    | true => some (SRunsO P (execOp ρ o) (lendO m ps) k v out, ⟨v ns, outUpd ps nx (out ns)⟩)
    | false => none
  | .othOB ps k nb v out => match nodupPs ps && newIn ps nb (out (lendO m ps) ns) with
    | true => some (SRunsO P (execOp ρ o) (lendO m ps) k v (out (lendO m ps)), ⟨v ns, outUpd ps nx (out (lendO m ps) ns)⟩)
    | false => none
  | .oth ps k nb v out => match lendL m ps with
    | some bs => match nodupPs ps && newIn ps nb (out ns) with
      | true => some (SRuns P (execOp ρ o) bs k v out, ⟨v ns, outUpd ps nx (out ns)⟩)
      | false => none
    | none => none
  | .othF ps k nb v out => match lendL m ps with
    | some bs => match nodupPs ps && newIn ps nb (out ns) with
      | true => some (SRunsF F P (execOp ρ o) bs k v out, ⟨v ns, outUpd ps nx (out ns)⟩)
      | false => none
    | none => none
  | .othB ps k nb v out => match lendL m ps with
    | some bs => match nodupPs ps && newIn ps nb (out bs ns) with
      | true => some (SRuns P (execOp ρ o) bs k v (out bs), ⟨v ns, outUpd ps nx (out bs ns)⟩)
      | false => none
    | none => none
  | _ => none
def cellO (bs : List (Option Blk)) (i : Nat) : Value := match bs[i]? with
  | some (some b) => match b.cont with
    | .lit [v] => v
    | _ => undef
  | _ => undef
theorem look_nil {β : Type} (t : Nat) : look ([] : List (Nat × β)) t = none := rfl
theorem look_cons {β : Type} (k : Nat) (v : β) (r : List (Nat × β)) (t : Nat) : look ((k, v) :: r) t = if k = t then some v else look r t := by
  simp only [look]
  by_cases h : k = t
  · subst h; simp
  · cases hb : Nat.beq k t with
    | true => exact absurd (Nat.eq_of_beq_eq_true hb) h
    | false => simp [h]
theorem outUpd_look (ps : List (Nat × Bool)) : ∀ (nx : Nat) (out : List (Option Blk)) (q : Nat) (ob : Option Blk), look (outUpd ps nx out) q = some ob →
    ∃ i, out[i]? = some ob ∧ (ps[i]? = some (q, false) ∨ (ps.length ≤ i ∧ q = nx + (i - ps.length))) := by
  induction ps with
  | nil =>
    intro nx out q ob
    induction out generalizing nx with
    | nil => intro h; simp [outUpd, look] at h
    | cons b out ih =>
      intro h
      simp only [outUpd, look_cons] at h
      split at h
      · rename_i hq
        injection h with h; subst h; subst hq
        exact ⟨0, rfl, .inr ⟨Nat.le_refl _, by simp⟩⟩
      · obtain ⟨i, h1, h2⟩ := ih _ h
        refine ⟨i + 1, by simpa using h1, .inr ⟨Nat.zero_le _, ?_⟩⟩
        rcases h2 with h2 | ⟨_, h2⟩
        · simp at h2
        · simp at h2 ⊢; omega
  | cons x r ih =>
    obtain ⟨p, ro⟩ := x
    intro nx out q ob h
    cases out with
    | nil => simp [outUpd, look] at h
    | cons b out =>
      cases ro with
      | true =>
        simp only [outUpd] at h
        obtain ⟨i, h1, h2⟩ := ih _ _ _ _ h
        refine ⟨i + 1, by simpa using h1, ?_⟩
        rcases h2 with h2 | ⟨h2, h3⟩
        · exact .inl (by simpa using h2)
        · exact .inr ⟨by simp; omega, by simp; omega⟩
      | false =>
        simp only [outUpd, look_cons] at h
        split at h
        · rename_i hq
          injection h with h; subst h; subst hq
          exact ⟨0, rfl, .inl rfl⟩
        · obtain ⟨i, h1, h2⟩ := ih _ _ _ _ h
          refine ⟨i + 1, by simpa using h1, ?_⟩
          rcases h2 with h2 | ⟨h2, h3⟩
          · exact .inl (by simpa using h2)
          · exact .inr ⟨by simp; omega, by simp; omega⟩
theorem outUpd_some (ps : List (Nat × Bool)) : ∀ (nx : Nat) (out : List (Option Blk)) (i q : Nat), ps[i]? = some (q, false) → ps.length ≤ out.length →
    look (outUpd ps nx out) q ≠ none := by
  induction ps with
  | nil => intro nx out i q h; simp at h
  | cons x r ih =>
    obtain ⟨p, ro⟩ := x
    intro nx out i q h hl
    cases out with
    | nil => simp at hl
    | cons b out =>
      have hl' : r.length ≤ out.length := by simpa using hl
      cases i with
      | zero =>
        simp at h
        obtain ⟨rfl, rfl⟩ := h
        simp [outUpd, look_cons]
      | succ i =>
        have h' : r[i]? = some (q, false) := by simpa using h
        cases ro with
        | true => simp only [outUpd]; exact ih nx out i q h' hl'
        | false =>
          simp only [outUpd, look_cons]
          split
          · simp
          · exact ih nx out i q h' hl'
theorem lendL_get {m : Nat → Option Blk} : ∀ {ps : List (Nat × Bool)} {bs : List Blk}, lendL m ps = some bs →
    bs.length = ps.length ∧ ∀ (i : Nat) (p : Nat) (ro : Bool), ps[i]? = some (p, ro) → ∃ b, m p = some b ∧ bs[i]? = some (match ro with | true => { b with own := false } | false => b)
  | [], bs, h => by
    simp [lendL] at h; subst h
    exact ⟨rfl, fun i p ro h => by simp at h⟩
  | (p, ro) :: r, bs, h => by
    simp only [lendL] at h
    split at h
    · rename_i b hb
      split at h
      · rename_i l hl
        injection h with h; subst h
        obtain ⟨h1, h2⟩ := lendL_get hl
        refine ⟨by simp [h1], fun i q ro' hi => ?_⟩
        cases i with
        | zero =>
          simp at hi
          obtain ⟨rfl, rfl⟩ := hi
          exact ⟨b, hb, rfl⟩
        | succ i =>
          obtain ⟨c, hc1, hc2⟩ := h2 i q ro' (by simpa using hi)
          exact ⟨c, hc1, by simpa using hc2⟩
      · cases h
    · cases h
theorem nodupPs_get : ∀ {ps : List (Nat × Bool)}, nodupPs ps = true → ∀ (i j : Nat) (p q : Nat) (a b : Bool), ps[i]? = some (p, a) → ps[j]? = some (q, b) → i ≠ j → p ≠ q
  | [], _, i, j, p, q, a, b, hi, _, _ => by simp at hi
  | (x, ro) :: r, h, i, j, p, q, a, b, hi, hj, hij => by
    simp only [nodupPs, Bool.and_eq_true, List.all_eq_true] at h
    have key : ∀ (k : Nat) (y : Nat) (c : Bool), r[k]? = some (y, c) → y ≠ x := fun k y c hk => by
      have := h.1 (y, c) (List.mem_of_getElem? hk)
      intro e; subst e; simp at this
    cases i with
    | zero =>
      cases j with
      | zero => exact absurd rfl hij
      | succ j =>
        simp at hi
        obtain ⟨rfl, rfl⟩ := hi
        exact (key j q b (by simpa using hj)).symm
    | succ i =>
      cases j with
      | zero =>
        simp at hj
        obtain ⟨rfl, rfl⟩ := hj
        exact key i p a (by simpa using hi)
      | succ j => exact nodupPs_get h.2 i j p q a b (by simpa using hi) (by simpa using hj) (by omega)
theorem listMem_some {l : List Blk} {i : Nat} {b : Blk} : listMem (l.map some) i = some b ↔ l[i]? = some b := by
  simp only [listMem, List.getElem?_map]
  cases l[i]? <;> simp
theorem lend_owns {m : Nat → Option Blk} {ps : List (Nat × Bool)} {bs : List Blk} (hl : lendL m ps = some bs) {k : Nat} (h : Owns (listMem (bs.map some)) k) :
    ∃ (i p : Nat) (b : Blk), ps[i]? = some (p, false) ∧ m p = some b ∧ b.own = true ∧ b.has k := by
  obtain ⟨i, b, hb, ho, hk⟩ := h
  rw [listMem_some] at hb
  obtain ⟨h1, h2⟩ := lendL_get hl
  have hi : i < ps.length := by rw [← h1]; exact (List.getElem?_eq_some_iff.1 hb).1
  rcases hp : ps[i] with ⟨p, ro⟩
  have hpi : ps[i]? = some (p, ro) := by rw [List.getElem?_eq_getElem hi, hp]
  obtain ⟨c, hc1, hc2⟩ := h2 i p ro hpi
  rw [hb] at hc2
  cases ro with
  | true => injection hc2 with hc2; subst hc2; cases ho
  | false => injection hc2 with hc2; subst hc2; exact ⟨i, p, b, hpi, hc1, ho, hk⟩
theorem lend_holds {m : Nat → Option Blk} {w : World} (hm : ∀ p b, m p = some b → Holds b w) {ps : List (Nat × Bool)} {bs : List Blk} (hl : lendL m ps = some bs) : ∀ b ∈ bs, Holds b w := by
  intro b hb
  obtain ⟨i, hi⟩ := List.getElem?_of_mem hb
  obtain ⟨h1, h2⟩ := lendL_get hl
  have hi' : i < ps.length := by rw [← h1]; exact (List.getElem?_eq_some_iff.1 hi).1
  rcases hp : ps[i] with ⟨p, ro⟩
  have hpi : ps[i]? = some (p, ro) := by rw [List.getElem?_eq_getElem hi', hp]
  obtain ⟨c, hc1, hc2⟩ := h2 i p ro hpi
  rw [hi] at hc2
  have := hm p c hc1
  cases ro with
  | true => injection hc2 with hc2; subst hc2; exact this.ro
  | false => injection hc2 with hc2; subst hc2; exact this
theorem lend_apart {m : Nat → Option Blk} (ha : Apart m) {ps : List (Nat × Bool)} {bs : List Blk} (hl : lendL m ps = some bs) (hn : nodupPs ps = true) : Apart (listMem (bs.map some)) := by
  intro i j b c hij hb hc ho
  rw [listMem_some] at hb hc
  obtain ⟨h1, h2⟩ := lendL_get hl
  have hi' : i < ps.length := by rw [← h1]; exact (List.getElem?_eq_some_iff.1 hb).1
  have hj' : j < ps.length := by rw [← h1]; exact (List.getElem?_eq_some_iff.1 hc).1
  rcases hp : ps[i] with ⟨p, ro⟩
  rcases hq : ps[j] with ⟨q, ro'⟩
  have hpi : ps[i]? = some (p, ro) := by rw [List.getElem?_eq_getElem hi', hp]
  have hqj : ps[j]? = some (q, ro') := by rw [List.getElem?_eq_getElem hj', hq]
  obtain ⟨x, hx1, hx2⟩ := h2 i p ro hpi
  obtain ⟨y, hy1, hy2⟩ := h2 j q ro' hqj
  rw [hb] at hx2
  rw [hc] at hy2
  have hpq := nodupPs_get hn i j p q ro ro' hpi hqj hij
  have hyn : ∀ k, c.has k → y.has k := by cases ro' <;> (injection hy2 with hy2; subst hy2; exact fun _ h => h)
  cases ro with
  | true => injection hx2 with hx2; subst hx2; cases ho
  | false => injection hx2 with hx2; subst hx2; exact fun k hk hc => ha p q b y hpq hx1 hy1 ho k hk (hyn k hc)
theorem post_frame {m : Nat → Option Blk} {w w' : World} (hm : ∀ p b, m p = some b → Holds b w) (ha : Apart m) {ps : List (Nat × Bool)} {bs : List Blk}
    (hl : lendL m ps = some bs) {nx : Nat} {out : List (Option Blk)} (hlen : ps.length ≤ out.length)
    (h : Post (listMem (bs.map some)) w (listMem out) w') : Post m w (memApply m (outUpd ps nx out)) w' := by
  obtain ⟨hh, hap, hadv⟩ := h
  have hro := hadv.ro
  obtain ⟨h1, h2⟩ := lendL_get hl
  have hget : ∀ (i : Nat) (ob : Option Blk), out[i]? = some ob → listMem out i = ob := fun i ob hi => by simp [listMem, hi]
  have hstay : ∀ q c, look (outUpd ps nx out) q = none → m q = some c → ∀ k, c.has k → ¬ Owns (listMem (bs.map some)) k := fun q c hq hc k hk ho => by
    obtain ⟨i, p, b, hpi, hmb, hown, hname⟩ := lend_owns hl ho
    have hpq : p ≠ q := fun e => by subst e; exact outUpd_some ps nx out i p hpi hlen hq
    exact ha p q b c hpq hmb hc hown k hname hk
  have hsub : ∀ k, Owns (listMem (bs.map some)) k → Owns m k := fun k hk => by
    obtain ⟨i, p, b, _, hmb, hown, hname⟩ := lend_owns hl hk
    exact ⟨p, b, hmb, hown, hname⟩
  have hcase : ∀ q c, memApply m (outUpd ps nx out) q = some c →
      (∃ i, listMem out i = some c ∧ look (outUpd ps nx out) q ≠ none ∧ (ps[i]? = some (q, false) ∨ (ps.length ≤ i ∧ q = nx + (i - ps.length)))) ∨
      (look (outUpd ps nx out) q = none ∧ m q = some c) := fun q c hq => by
    unfold memApply at hq
    cases hlk : look (outUpd ps nx out) q with
    | none => rw [hlk] at hq; exact .inr ⟨rfl, hq⟩
    | some ob =>
      rw [hlk] at hq
      simp only at hq
      obtain ⟨i, hi, hpos⟩ := outUpd_look ps nx out q ob hlk
      exact .inl ⟨i, by rw [hget i ob hi, hq], by simp, hpos⟩
  have hnon : ∀ i p c, listMem out i = some c → c.own = false → (ps[i]? = some (p, false) ∨ (ps.length ≤ i ∧ p = nx + (i - ps.length))) → m p = some c := fun i p c hc ho' hpos => by
    have hb := hro i c hc ho'
    rw [listMem_some] at hb
    have hi' : i < ps.length := by rw [← h1]; exact (List.getElem?_eq_some_iff.1 hb).1
    rcases hpos with hpi | ⟨hle, _⟩
    · obtain ⟨x, hx1, hx2⟩ := h2 i p false hpi
      rw [hb] at hx2
      injection hx2 with hx2; subst hx2; exact hx1
    · omega
  have hother : ∀ i p c q d, listMem out i = some c → look (outUpd ps nx out) p ≠ none → (ps[i]? = some (p, false) ∨ (ps.length ≤ i ∧ p = nx + (i - ps.length))) →
      look (outUpd ps nx out) q = none → m q = some d → (c.own = true ∨ d.own = true) → ∀ k, c.has k → ¬ d.has k := fun i p c q d hc hp hpos hq hd hown k hck hdk => by
    by_cases ho : c.own = true
    · rcases hadv.names k ⟨i, c, hc, ho, hck⟩ with hn | hn
      · exact hstay q d hq hd k hdk hn
      · have := (hm q d hd).has_lt hdk
        omega
    · have ho' : c.own = false := by simpa using ho
      have hd' : d.own = true := hown.resolve_left ho
      have hmp := hnon i p c hc ho' hpos
      have hpq : q ≠ p := fun e => by subst e; exact hp hq
      exact ha q p d c hpq hd hmp hd' k hdk hck
  refine ⟨fun q c hq => ?_, fun p q b c hpq hb hc ho => ?_, ⟨hadv.os, hadv.output, hadv.tape, hadv.size, fun k hk hn => hadv.heap k hk (fun h => hn (hsub k h)), fun k hk => ?_, fun q c hq ho => ?_⟩⟩
  · rcases hcase q c hq with ⟨i, hi, _, _⟩ | ⟨hn, hmq⟩
    · exact hh i c hi
    · exact (hm q c hmq).of_heap hadv.size fun k hk => hadv.heap _ ((hm q c hmq).has_lt hk) (hstay q c hn hmq k hk)
  · rcases hcase p b hb with ⟨i, hi, hip, hipos⟩ | ⟨hn, hmp⟩
    · rcases hcase q c hc with ⟨j, hj, hjq, hjpos⟩ | ⟨hn', hmq⟩
      · refine hap i j b c (fun e => hpq ?_) hi hj ho
        subst e
        rcases hipos with h3 | ⟨h3, h4⟩ <;> rcases hjpos with h5 | ⟨h5, h6⟩
        · rw [h3] at h5; injection h5 with h5; injection h5
        · have := (List.getElem?_eq_some_iff.1 h3).1; omega
        · have := (List.getElem?_eq_some_iff.1 h5).1; omega
        · omega
      · exact hother i p b q c hi hip hipos hn' hmq (.inl ho)
    · rcases hcase q c hc with ⟨j, hj, hjq, hjpos⟩ | ⟨hn', hmq⟩
      · exact fun k hk hc => hother j q c p b hj hjq hjpos hn hmp (.inr ho) k hc hk
      · exact ha p q b c hpq hmp hmq ho
  · obtain ⟨q, c, hq, ho, hck⟩ := hk
    rcases hcase q c hq with ⟨i, hi, _, _⟩ | ⟨_, hmq⟩
    · rcases hadv.names k ⟨i, c, hi, ho, hck⟩ with h3 | h3
      · exact .inl (hsub _ h3)
      · exact .inr h3
    · exact .inl ⟨q, c, hmq, ho, hck⟩
  · rcases hcase q c hq with ⟨i, hi, _, hpos⟩ | ⟨_, hmq⟩
    · exact hnon i q c hi ho hpos
    · exact hmq
theorem roO_some {o : Option Blk} {b : Blk} (h : roO o = some b) : ∃ c, o = some c ∧ b = { c with own := false } := by
  cases o with
  | none => cases h
  | some c => injection h with h; exact ⟨c, rfl, h.symm⟩
theorem lendO_len {m : Nat → Option Blk} : ∀ (ps : List (Nat × Bool)), (lendO m ps).length = ps.length
  | [] => rfl
  | (p, ro) :: r => by simp [lendO, lendO_len r]
theorem lendO_at {m : Nat → Option Blk} : ∀ (ps : List (Nat × Bool)) (i p : Nat) (ro : Bool), ps[i]? = some (p, ro) → listMem (lendO m ps) i = match ro with | true => roO (m p) | false => m p
  | [], i, p, ro, h => by simp at h
  | (q, ro') :: r, i, p, ro, h => by
    cases i with
    | zero => simp at h; obtain ⟨rfl, rfl⟩ := h; rfl
    | succ i =>
      have := lendO_at (m := m) r i p ro (by simpa using h)
      simpa [listMem, lendO] using this
theorem lendO_some {m : Nat → Option Blk} {ps : List (Nat × Bool)} {i : Nat} {b : Blk} (h : listMem (lendO m ps) i = some b) :
    ∃ (p : Nat) (ro : Bool) (c : Blk), ps[i]? = some (p, ro) ∧ m p = some c ∧ b = match ro with | true => { c with own := false } | false => c := by
  have hi : i < ps.length := by
    rcases Nat.lt_or_ge i ps.length with h1 | h1
    · exact h1
    · have : (lendO m ps)[i]? = none := List.getElem?_eq_none (by rw [lendO_len]; exact h1)
      simp [listMem, this] at h
  rcases hp : ps[i] with ⟨p, ro⟩
  have hpi : ps[i]? = some (p, ro) := by rw [List.getElem?_eq_getElem hi, hp]
  rw [lendO_at ps i p ro hpi] at h
  cases ro with
  | true => obtain ⟨c, h1, h2⟩ := roO_some h; exact ⟨p, true, c, hpi, h1, h2⟩
  | false => exact ⟨p, false, b, hpi, h, rfl⟩
theorem lendO_owns {m : Nat → Option Blk} {ps : List (Nat × Bool)} {k : Nat} (h : Owns (listMem (lendO m ps)) k) :
    ∃ (i p : Nat) (b : Blk), ps[i]? = some (p, false) ∧ m p = some b ∧ b.own = true ∧ b.has k := by
  obtain ⟨i, b, hb, ho, hk⟩ := h
  obtain ⟨p, ro, c, h1, h2, h3⟩ := lendO_some hb
  cases ro with
  | true => subst h3; cases ho
  | false => subst h3; exact ⟨i, p, b, h1, h2, ho, hk⟩
theorem lendO_holds {m : Nat → Option Blk} {w : World} (hm : ∀ p b, m p = some b → Holds b w) {ps : List (Nat × Bool)} : ∀ i b, listMem (lendO m ps) i = some b → Holds b w := by
  intro i b hb
  obtain ⟨p, ro, c, h1, h2, h3⟩ := lendO_some hb
  have := hm p c h2
  cases ro with
  | true => subst h3; exact this.ro
  | false => subst h3; exact this
theorem lendO_apart {m : Nat → Option Blk} (ha : Apart m) {ps : List (Nat × Bool)} (hn : nodupPs ps = true) : Apart (listMem (lendO m ps)) := by
  intro i j b c hij hb hc ho
  obtain ⟨p, ro, x, h1, h2, h3⟩ := lendO_some hb
  obtain ⟨q, ro', y, h4, h5, h6⟩ := lendO_some hc
  have hpq := nodupPs_get hn i j p q ro ro' h1 h4 hij
  have hyn : ∀ k, c.has k → y.has k := by cases ro' <;> (subst h6; exact fun _ h => h)
  cases ro with
  | true => subst h3; cases ho
  | false => subst h3; exact fun k hk hc => ha p q b y hpq h2 h5 ho k hk (hyn k hc)
theorem post_frameO {m : Nat → Option Blk} {w w' : World} (hm : ∀ p b, m p = some b → Holds b w) (ha : Apart m) {ps : List (Nat × Bool)}
    {nx : Nat} {out : List (Option Blk)} (hlen : ps.length ≤ out.length)
    (h : Post (listMem (lendO m ps)) w (listMem out) w') : Post m w (memApply m (outUpd ps nx out)) w' := by
  obtain ⟨hh, hap, hadv⟩ := h
  have hro := hadv.ro
  have hget : ∀ (i : Nat) (ob : Option Blk), out[i]? = some ob → listMem out i = ob := fun i ob hi => by simp [listMem, hi]
  have hstay : ∀ q c, look (outUpd ps nx out) q = none → m q = some c → ∀ k, c.has k → ¬ Owns (listMem (lendO m ps)) k := fun q c hq hc k hk ho => by
    obtain ⟨i, p, b, hpi, hmb, hown, hname⟩ := lendO_owns ho
    have hpq : p ≠ q := fun e => by subst e; exact outUpd_some ps nx out i p hpi hlen hq
    exact ha p q b c hpq hmb hc hown k hname hk
  have hsub : ∀ k, Owns (listMem (lendO m ps)) k → Owns m k := fun k hk => by
    obtain ⟨i, p, b, _, hmb, hown, hname⟩ := lendO_owns hk
    exact ⟨p, b, hmb, hown, hname⟩
  have hcase : ∀ q c, memApply m (outUpd ps nx out) q = some c →
      (∃ i, listMem out i = some c ∧ look (outUpd ps nx out) q ≠ none ∧ (ps[i]? = some (q, false) ∨ (ps.length ≤ i ∧ q = nx + (i - ps.length)))) ∨
      (look (outUpd ps nx out) q = none ∧ m q = some c) := fun q c hq => by
    unfold memApply at hq
    cases hlk : look (outUpd ps nx out) q with
    | none => rw [hlk] at hq; exact .inr ⟨rfl, hq⟩
    | some ob =>
      rw [hlk] at hq
      simp only at hq
      obtain ⟨i, hi, hpos⟩ := outUpd_look ps nx out q ob hlk
      exact .inl ⟨i, by rw [hget i ob hi, hq], by simp, hpos⟩
  have hnon : ∀ i p c, listMem out i = some c → c.own = false → (ps[i]? = some (p, false) ∨ (ps.length ≤ i ∧ p = nx + (i - ps.length))) → m p = some c := fun i p c hc ho' hpos => by
    have hb := hro i c hc ho'
    obtain ⟨q, ro, d, h1, h2, h3⟩ := lendO_some hb
    rcases hpos with hpi | ⟨hle, _⟩
    · rw [hpi] at h1; injection h1 with h1; injection h1 with h4 h5; subst h4; subst h5; subst h3; exact h2
    · have := (List.getElem?_eq_some_iff.1 h1).1; omega
  have hother : ∀ i p c q d, listMem out i = some c → look (outUpd ps nx out) p ≠ none → (ps[i]? = some (p, false) ∨ (ps.length ≤ i ∧ p = nx + (i - ps.length))) →
      look (outUpd ps nx out) q = none → m q = some d → (c.own = true ∨ d.own = true) → ∀ k, c.has k → ¬ d.has k := fun i p c q d hc hp hpos hq hd hown k hck hdk => by
    by_cases ho : c.own = true
    · rcases hadv.names k ⟨i, c, hc, ho, hck⟩ with hn | hn
      · exact hstay q d hq hd k hdk hn
      · have := (hm q d hd).has_lt hdk
        omega
    · have ho' : c.own = false := by simpa using ho
      have hd' : d.own = true := hown.resolve_left ho
      have hmp := hnon i p c hc ho' hpos
      have hpq : q ≠ p := fun e => by subst e; exact hp hq
      exact ha q p d c hpq hd hmp hd' k hdk hck
  refine ⟨fun q c hq => ?_, fun p q b c hpq hb hc ho => ?_, ⟨hadv.os, hadv.output, hadv.tape, hadv.size, fun k hk hn => hadv.heap k hk (fun h => hn (hsub k h)), fun k hk => ?_, fun q c hq ho => ?_⟩⟩
  · rcases hcase q c hq with ⟨i, hi, _, _⟩ | ⟨hn, hmq⟩
    · exact hh i c hi
    · exact (hm q c hmq).of_heap hadv.size fun k hk => hadv.heap _ ((hm q c hmq).has_lt hk) (hstay q c hn hmq k hk)
  · rcases hcase p b hb with ⟨i, hi, hip, hipos⟩ | ⟨hn, hmp⟩
    · rcases hcase q c hc with ⟨j, hj, hjq, hjpos⟩ | ⟨hn', hmq⟩
      · refine hap i j b c (fun e => hpq ?_) hi hj ho
        subst e
        rcases hipos with h3 | ⟨h3, h4⟩ <;> rcases hjpos with h5 | ⟨h5, h6⟩
        · rw [h3] at h5; injection h5 with h5; injection h5
        · have := (List.getElem?_eq_some_iff.1 h3).1; omega
        · have := (List.getElem?_eq_some_iff.1 h5).1; omega
        · omega
      · exact hother i p b q c hi hip hipos hn' hmq (.inl ho)
    · rcases hcase q c hc with ⟨j, hj, hjq, hjpos⟩ | ⟨hn', hmq⟩
      · exact fun k hk hc => hother j q c p b hj hjq hjpos hn hmp (.inr ho) k hc hk
      · exact ha p q b c hpq hmp hmq ho
  · obtain ⟨q, c, hq, ho, hck⟩ := hk
    rcases hcase q c hq with ⟨i, hi, _, _⟩ | ⟨_, hmq⟩
    · rcases hadv.names k ⟨i, c, hi, ho, hck⟩ with h3 | h3
      · exact .inl (hsub _ h3)
      · exact .inr h3
    · exact .inl ⟨q, c, hmq, ho, hck⟩
  · rcases hcase q c hq with ⟨i, hi, _, hpos⟩ | ⟨_, hmq⟩
    · exact hnon i q c hi ho hpos
    · exact hmq
end Go.Eng
end
section
namespace Go.Eng
theorem run_sizeB {P : Program} {t : TypeId} {n : Nat} (h : sizeB P t = some n) (w : World) : (sizeOf t).run P w = .ok n w := by
  simp only [sizeB, Option.map_eq_some_iff] at h
  obtain ⟨i, hi, rfl⟩ := h
  simp [sizeOf, typeInfo, hi]
theorem run_aggB {P : Program} {t : TypeId} {b : Bool} (h : aggB P t = some b) (w : World) : (isAgg t).run P w = .ok b w := by
  unfold aggB at h
  cases hu : P.underlying t with
  | none => rw [hu] at h; cases h
  | some d =>
    rw [hu] at h
    simp only [isAgg, Sem.run_bind, run_underlying hu, Result.andThen_ok]
    cases d <;> simp at h <;> subst h <;> rfl
theorem run_loadAt_agg {P : Program} {t : TypeId} {n : Nat} {w : World} {b o : Nat} {cs : List Value} (hs : sizeB P t = some n) (ha : aggB P t = some true) (hl : cs.length = n)
    (hc : ∀ k v, cs[k]? = some v → w.cell? ⟨b, o + k, none⟩ = some v) :
    (Instr.loadAt t (.pointer (some ⟨b, o, none⟩))).run P w = .ok (.agg cs.toArray) w := by
  have h1 := run_loadCells_list (P := P) w ⟨b, o, none⟩ cs (fun k v hk => by
    have : (⟨b, o, none⟩ : Addr).add k = ⟨b, o + k, none⟩ := by unfold Addr.add; split <;> simp_all
    rw [this]; exact hc k v hk)
  rw [hl] at h1
  simp [Instr.loadAt, Instr.sureAddr, loadVar, run_aggB ha, run_sizeB hs, h1]
theorem run_loadAt_one {P : Program} {t : TypeId} {w : World} {b o : Nat} {v : Value} (ha : aggB P t = some false)
    (hc : w.cell? ⟨b, o, none⟩ = some v) : (Instr.loadAt t (.pointer (some ⟨b, o, none⟩))).run P w = .ok v w := by
  simp [Instr.loadAt, Instr.sureAddr, loadVar, run_aggB ha, hc]
theorem heap_setCells (b : Nat) : ∀ (vs : List Value) (o : Nat) (w : World) (k : Nat), k ≠ b → (w.setCells b o vs).heap[k]? = w.heap[k]?
  | [], _, _, _, _ => rfl
  | v :: r, o, w, k, h => by
    rw [World.setCells, heap_setCells b r _ _ k h]
    simp only [World.setCell, Array.getElem?_modify]
    rw [if_neg (by simpa using (Ne.symm h))]
theorem size_setCells (b : Nat) : ∀ (vs : List Value) (o : Nat) (w : World), (w.setCells b o vs).heap.size = w.heap.size
  | [], _, _ => rfl
  | v :: r, o, w => by rw [World.setCells, size_setCells b r]; simp
theorem rest_setCells (b : Nat) : ∀ (vs : List Value) (o : Nat) (w : World), (w.setCells b o vs).os = w.os ∧ (w.setCells b o vs).output = w.output ∧ (w.setCells b o vs).tape = w.tape
  | [], _, _ => ⟨rfl, rfl, rfl⟩
  | v :: r, o, w => by
    obtain ⟨h1, h2, h3⟩ := rest_setCells b r (o + 1) (w.setCell ⟨b, o, none⟩ v)
    exact ⟨h1, h2, h3⟩
theorem cell_setCells_out (b : Nat) : ∀ (vs : List Value) (o : Nat) (w : World) (k : Nat), (k < o ∨ o + vs.length ≤ k) → (w.setCells b o vs).cell? ⟨b, k, none⟩ = w.cell? ⟨b, k, none⟩
  | [], _, _, _, _ => rfl
  | v :: r, o, w, k, h => by
    simp only [List.length_cons] at h
    rw [World.setCells, cell_setCells_out b r _ _ k (by omega), World.cell?_setCell_other]
    simp
    omega
theorem post_store {m : Nat → Option Blk} {w : World} (hm : ∀ p b, m p = some b → Holds b w) (ha : Apart m) {p : Nat} {b : Blk} (hp : m p = some b) (ho : b.own = true)
    {l : Loc} {cs : List Value} {c : Cont} (hst : b.cont.store l cs = some c) (hc : b.cont.cond l) :
    Post m w (memApply m [(p, some { b with cont := c })]) (w.setCells b.name (b.base + b.cont.off l) cs) := by
  obtain ⟨g1, g2⟩ := Cont.store_get hst hc
  obtain ⟨r1, r2, r3⟩ := rest_setCells b.name cs (b.base + b.cont.off l) w
  have hbm := Cont.store_src hst
  have hcm := Cont.store_notmap hst
  have hk : ∀ k, Blk.has { b with cont := c } k ↔ b.has k := fun k => (has_not hcm).trans (has_not hbm).symm
  have hb := hm p b hp
  have happ : ∀ q, memApply m [(p, some { b with cont := c })] q = if p = q then some { b with cont := c } else m q := fun q => by
    simp only [memApply, look_cons, look_nil]
    split <;> rename_i h <;> split at h <;> simp_all
  have hcell : ∀ o v, c.get o = some v → (w.setCells b.name (b.base + b.cont.off l) cs).cell? ⟨b.name, b.base + o, none⟩ = some v := fun o v hv => by
    rw [g2] at hv
    by_cases hin : b.cont.off l ≤ o ∧ o < b.cont.off l + cs.length
    · rw [if_pos hin] at hv
      have h1 := World.cell?_setCells_in b.name cs (b.base + b.cont.off l) w (fun j hj => by
        obtain ⟨u, hu⟩ := g1 j hj
        rw [Nat.add_assoc, hb.cell _ u hu]; rfl) (o - b.cont.off l) (by omega)
      rw [show b.base + o = b.base + b.cont.off l + (o - b.cont.off l) by omega, h1, ← List.getElem?_eq_getElem]
      exact hv
    · rw [if_neg hin] at hv
      rw [cell_setCells_out _ _ _ _ _ (by omega)]
      exact hb.cell o v hv
  have hfree : ∀ o v, c.get o = some v → (w.setCells b.name (b.base + b.cont.off l) cs).frozen? ⟨b.name, b.base + o, none⟩ = false := fun o v hv => by
    rw [World.frozen?_setCells]
    rw [g2] at hv
    by_cases hin : b.cont.off l ≤ o ∧ o < b.cont.off l + cs.length
    · obtain ⟨u, hu⟩ := g1 (o - b.cont.off l) (by omega)
      rw [show b.cont.off l + (o - b.cont.off l) = o by omega] at hu
      exact hb.free ho o u hu
    · rw [if_neg hin] at hv
      exact hb.free ho o v hv
  refine ⟨fun q d hq => ?_, fun q r d e hqr hd he hown => ?_, ⟨r1, r2, r3, Nat.le_of_eq (size_setCells _ _ _ _).symm, fun k _ hn => heap_setCells _ _ _ _ _ (fun e => hn ⟨p, b, hp, ho, (has_not hbm).2 e.symm⟩), fun k hdk => ?_, fun q d hq hown => ?_⟩⟩
  · rw [happ] at hq
    split at hq
    · injection hq with hq; subst hq
      exact ⟨by rw [size_setCells]; exact hb.lt, hcell, fun _ => hfree, obj_not (Cont.store_notmap hst)⟩
    · rename_i hpq
      exact (hm q d hq).of_heap (by rw [size_setCells]; exact Nat.le_refl _) fun k hdk => heap_setCells _ _ _ _ _ (fun e => ha p q b d hpq hp hq ho k ((has_not hbm).2 e.symm) hdk)
  · rw [happ] at hd he
    split at hd <;> split at he
    · rename_i h1 h2; exact absurd (h1.symm.trans h2) hqr
    · rename_i h1 h2
      injection hd with hd; subst hd; subst h1
      exact fun k k1 k2 => ha p r b e h2 hp he ho k ((hk k).1 k1) k2
    · rename_i h1 h2
      injection he with he; subst he; subst h2
      exact fun k k1 k2 => ha q p d b (Ne.symm h1) hd hp hown k k1 ((hk k).1 k2)
    · exact ha q r d e hqr hd he hown
  · obtain ⟨q, d, hq, hown, hdk⟩ := hdk
    rw [happ] at hq
    split at hq
    · injection hq with hq; subst hq
      exact .inl ⟨p, b, hp, ho, (hk k).1 hdk⟩
    · exact .inl ⟨q, d, hq, hown, hdk⟩
  · rw [happ] at hq
    split at hq
    · injection hq with hq; subst hq
      rw [ho] at hown; cases hown
    · exact hq
theorem run_storeAt {P : Program} {t : TypeId} {n : Nat} {w : World} {b o : Nat} {v : Value} (hs : sizeB P t = some n) (hl : v.cells.toList.length = n)
    (h1 : ∀ u ∈ v.cells.toList, u.oneCell' = true) (hc : ∀ k, k < n → ∃ u, w.cell? ⟨b, o + k, none⟩ = some u) (hf : ∀ k, k < n → w.frozen? ⟨b, o + k, none⟩ = false) :
    (Instr.storeAt t (.pointer (some ⟨b, o, none⟩)) v).run P w = .ok () (w.setCells b o v.cells.toList) := by
  have h2 := run_storeCells_cells (P := P) b o v.cells.toList 0 w (fun j hj => by obtain ⟨u, hu⟩ := hc j (by omega); rw [Nat.add_zero, hu]; rfl)
    (fun j hj => by rw [Nat.add_zero]; exact hf j (by omega)) h1
  have h3 : v.cells.size = n := by rw [← hl]; simp
  simp only [Nat.add_zero] at h2
  simp [Instr.storeAt, Instr.sureAddr, storeVar, run_sizeB hs, h3, h2]
theorem post_new {m : Nat → Option Blk} {w : World} (hm : ∀ p b, m p = some b → Holds b w) (ha : Apart m) (nx : Nat) (cs : Array Value) (t : TypeId) :
    Post m w (memApply m [(nx, some ⟨w.heap.size, true, 0, .lit cs.toList⟩)]) (w.alloc (.cells cs t)) := by
  have happ : ∀ q, memApply m [(nx, some ⟨w.heap.size, true, 0, .lit cs.toList⟩)] q = if nx = q then some ⟨w.heap.size, true, 0, .lit cs.toList⟩ else m q := fun q => by
    simp only [memApply, look_cons, look_nil]
    split <;> rename_i h <;> split at h <;> simp_all
  have hheap : ∀ k, k < w.heap.size → (w.alloc (.cells cs t)).heap[k]? = w.heap[k]? := fun k hk => by
    simp only [World.alloc]
    rw [Array.getElem?_push, if_neg (by omega)]
  refine ⟨fun q d hq => ?_, fun q r d e hqr hd he hown => ?_, ⟨rfl, rfl, rfl, by simp, fun k hk _ => hheap k hk, fun k hk => ?_, fun q d hq hown => ?_⟩⟩
  · rw [happ] at hq
    split at hq
    · injection hq with hq; subst hq
      refine ⟨by simp, fun o v hv => ?_, fun _ o v hv => ?_, obj_not rfl⟩
      · simp only [Cont.get] at hv
        rw [Nat.zero_add]
        rw [World.cell?_alloc_new]
        simpa using hv
      · simp
    · exact (hm q d hq).of_heap (by simp) fun k hk => hheap _ ((hm q d hq).has_lt hk)
  · rw [happ] at hd he
    split at hd <;> split at he
    · rename_i h1 h2; exact absurd (h1.symm.trans h2) hqr
    · injection hd with hd; subst hd
      intro k k1 k2
      have := (hm r e he).has_lt k2
      have : w.heap.size = k := k1
      omega
    · injection he with he; subst he
      intro k k1 k2
      have := (hm q d hd).has_lt k1
      have : w.heap.size = k := k2
      omega
    · exact ha q r d e hqr hd he hown
  · obtain ⟨q, d, hq, hown, hdk⟩ := hk
    rw [happ] at hq
    split at hq
    · injection hq with hq; subst hq
      have : w.heap.size = k := hdk
      exact .inr (by omega)
    · exact .inl ⟨q, d, hq, hown, hdk⟩
  · rw [happ] at hq
    split at hq
    · injection hq with hq; subst hq; cases hown
    · exact hq
theorem fam_lend {F : Blk → Prop} {m : Nat → Option Blk} {w : World} {ps : List (Nat × Bool)} {bs : List Blk} (hl : lendL m ps = some bs) (hF : Fam F m w) : Fam F (listMem (bs.map some)) w := fun b hb => by
  obtain ⟨h1, h2, h3⟩ := hF b hb
  refine ⟨h1, h2, fun k hk ho => h3 k hk ?_⟩
  obtain ⟨_, p, c, _, hp, hc, hk'⟩ := lend_owns hl ho
  exact ⟨p, c, hp, hc, hk'⟩
theorem fam_lendO {F : Blk → Prop} {m : Nat → Option Blk} {w : World} {ps : List (Nat × Bool)} (hF : Fam F m w) : Fam F (listMem (lendO m ps)) w := fun b hb => by
  obtain ⟨h1, h2, h3⟩ := hF b hb
  refine ⟨h1, h2, fun k hk ho => h3 k hk ?_⟩
  obtain ⟨_, p, c, _, hp, hc, hk'⟩ := lendO_owns ho
  exact ⟨p, c, hp, hc, hk'⟩
theorem core_sound {F : Blk → Prop} {P : Program} {o : Oper} {ρ : Operand → Value} {m : Nat → Option Blk} {nx : Nat} {h : OpH} {a : Act} {w : World} {K : Act → World → Prop} {Q : Exit → Act → World → Prop}
    (hm : ∀ p b, m p = some b → Holds b w) (ha : Apart m) (hF : Fam F m w) (hex : execOp a.eval o = execOp ρ o)
    (hall : ∀ ns, ns.length = h.nn → ∃ vc e, evCore F P o ρ m nx ns h = some (vc, e) ∧ vc)
    (hK : ∀ ns vc e w', ns.length = h.nn → evCore F P o ρ m nx ns h = some (vc, e) → vc → Post m w (memApply m e.upd) w' → K (a.put o.dst e.val) w') :
    o.wp P a w K Q := by
  unfold Oper.wp
  rw [hex]
  cases h with
  | g =>
    obtain ⟨vc, e, hev, hvc⟩ := hall [] rfl
    have hK' := hK [] vc e w rfl hev hvc
    simp only [evCore] at hev
    split at hev
    · rename_i v hv
      injection hev with hev; injection hev with h1 h2; subst h2
      rw [pureRun_run hv]
      exact hK' (.refl hm ha)
    · rename_i hv
      injection hev with hev; injection hev with h1 h2; subst h2
      rw [pureRun_run hv]
      exact hK' (.refl hm ha)
    · cases hev
  | as v =>
    obtain ⟨vc, e, hev, hvc⟩ := hall [] rfl
    have hK' := hK [] vc e w rfl hev hvc
    simp only [evCore] at hev
    injection hev with hev; injection hev with h1 h2; subst h1; subst h2
    rw [pureRun_run (hvc ρ o rfl rfl)]
    exact hK' (.refl hm ha)
  | asf f =>
    obtain ⟨vc, e, hev, hvc⟩ := hall [] rfl
    have hK' := hK [] vc e w rfl hev hvc
    simp only [evCore] at hev
    injection hev with hev; injection hev with h1 h2; subst h1; subst h2
    rw [pureRun_run (hvc ρ o rfl rfl)]
    exact hK' (.refl hm ha)
  | ld p l =>
    obtain ⟨vc, e, hev, hvc⟩ := hall [] rfl
    have hK' := hK [] vc e w rfl hev hvc
    simp only [evCore] at hev
    split at hev
    · rename_i t x hop
      split at hev
      · rename_i b hb
        split at hev
        · rename_i n hn
          split at hev
          · rename_i cs hcs
            split at hev
            · rename_i hag
              injection hev with hev; injection hev with h1 h2; subst h1; subst h2
              obtain ⟨hcond, hx⟩ := hvc
              obtain ⟨g1, g2⟩ := Cont.load_get hcs hcond
              have hr := run_loadAt_agg (P := P) (w := w) (b := b.name) (o := b.base + b.cont.off l) hn hag g1 (fun k v hk => by
                have hkn : k < n := by rw [← g1]; exact (List.getElem?_eq_some_iff.1 hk).1
                rw [Nat.add_assoc]; exact (hm p b hb).cell _ v (by rw [g2 k hkn, hk]))
              simp only [execOp, hop, hx, Sem.run_bind, hr, Result.andThen_ok, Sem.run_pure]
              exact hK' (.refl hm ha)
            · rename_i hag
              split at hev
              · rename_i v
                injection hev with hev; injection hev with h1 h2; subst h1; subst h2
                obtain ⟨hcond, hx⟩ := hvc
                obtain ⟨g1, g2⟩ := Cont.load_get hcs hcond
                have hr := run_loadAt_one (P := P) (w := w) (b := b.name) (o := b.base + b.cont.off l) (v := v) hag
                  ((hm p b hb).cell _ v (by have := g2 0 (by rw [← g1]; simp); simpa using this))
                simp only [execOp, hop, hx, Sem.run_bind, hr, Result.andThen_ok, Sem.run_pure]
                exact hK' (.refl hm ha)
              · cases hev
            · cases hev
          · cases hev
        · cases hev
      · cases hev
    · cases hev
  | st p l =>
    obtain ⟨vc, e, hev, hvc⟩ := hall [] rfl
    simp only [evCore] at hev
    split at hev
    · rename_i t x y hop
      split at hev
      · rename_i b hb
        split at hev
        · rename_i n hn
          split at hev
          · rename_i hchk
            split at hev
            · rename_i c hc
              have hK'' := fun w' => hK [] vc e w' rfl (by simp only [evCore, hop, hb, hn, hchk, hc]; exact hev) hvc
              injection hev with hev; injection hev with h1 h2; subst h1; subst h2
              obtain ⟨hcond, hx⟩ := hvc
              simp only [Bool.and_eq_true, List.all_eq_true] at hchk
              obtain ⟨⟨hlen, hone⟩, hown⟩ := hchk
              have hlen := Nat.eq_of_beq_eq_true hlen
              obtain ⟨g1, g2⟩ := Cont.store_get hc hcond
              have hr := run_storeAt (P := P) (w := w) (b := b.name) (o := b.base + b.cont.off l) hn hlen hone
                (fun k hk => by obtain ⟨u, hu⟩ := g1 k (by omega); exact ⟨u, by rw [Nat.add_assoc]; exact (hm p b hb).cell _ u hu⟩)
                (fun k hk => by obtain ⟨u, hu⟩ := g1 k (by omega); rw [Nat.add_assoc]; exact (hm p b hb).free hown _ u hu)
              simp only [execOp, hop, hx, Sem.run_bind, hr, Result.andThen_ok, Sem.run_pure]
              exact hK'' _ (post_store hm ha hb hown hc hcond)
            · cases hev
          · cases hev
        · cases hev
      · cases hev
    · cases hev
  | stc p l c =>
    obtain ⟨vc, e, hev, hvc⟩ := hall [] rfl
    simp only [evCore] at hev
    split at hev
    · rename_i t x y hop
      split at hev
      · rename_i b hb
        split at hev
        · rename_i n hn
          split at hev
          · rename_i hchk
            · have hK'' := fun w' => hK [] vc e w' rfl (by simp only [evCore, hop, hb, hn, hchk]; exact hev) hvc
              injection hev with hev; injection hev with h1 h2; subst h1; subst h2
              obtain ⟨hcond, hx, hc⟩ := hvc
              simp only [Bool.and_eq_true, List.all_eq_true] at hchk
              obtain ⟨⟨hlen, hone⟩, hown⟩ := hchk
              have hlen := Nat.eq_of_beq_eq_true hlen
              obtain ⟨g1, g2⟩ := Cont.store_get hc hcond
              have hr := run_storeAt (P := P) (w := w) (b := b.name) (o := b.base + b.cont.off l) hn hlen hone
                (fun k hk => by obtain ⟨u, hu⟩ := g1 k (by omega); exact ⟨u, by rw [Nat.add_assoc]; exact (hm p b hb).cell _ u hu⟩)
                (fun k hk => by obtain ⟨u, hu⟩ := g1 k (by omega); rw [Nat.add_assoc]; exact (hm p b hb).free hown _ u hu)
              simp only [execOp, hop, hx, Sem.run_bind, hr, Result.andThen_ok, Sem.run_pure]
              exact hK'' _ (post_store hm ha hb hown hc hcond)
          · cases hev
        · cases hev
      · cases hev
    · cases hev
  | upd p c =>
    obtain ⟨vc, e, hev, hvc⟩ := hall [] rfl
    have hK2 := fun w' => hK [] vc e w' rfl hev hvc
    simp only [evCore] at hev
    split at hev
    · rename_i b hb
      split at hev
      · rename_i ho
        injection hev with hev; injection hev with h1 h2; subst h1; subst h2
        have hl : lendL m [(p, false)] = some [b] := by simp [lendL, hb]
        obtain ⟨ns, w', hns, hrun, hpost⟩ := hvc w (lend_holds hm hl) (lend_apart ha hl rfl)
        have hp := post_frame (nx := nx) hm ha hl (by simp) hpost
        have := hK2 w' hp
        rcases hrun with hrun | ⟨hrun, _⟩
        · rw [hrun]; exact this
        · rw [hrun]; exact this
      · cases hev
    · cases hev
  | bsl =>
    obtain ⟨vc, e, hev, hvc⟩ := hall [0] rfl
    simp only [evCore] at hev hall hK
    split at hev
    · rename_i len cs hb
      injection hev with hev; injection hev with h1 h2; subst h1
      have hl : lendL m [] = some [] := rfl
      obtain ⟨ns, w', hns, hrun, hpost⟩ := hvc w (lend_holds hm hl) (lend_apart ha hl rfl)
      have hp := post_frame (nx := nx) hm ha hl (by simp) hpost
      rw [hb] at hK hall
      simp only at hK hall
      have := hK ns _ _ w' hns rfl hvc hp
      rcases hrun with hrun | ⟨hrun, hv⟩
      · rw [hrun]; exact this
      · cases hv
    · cases hev
  | new =>
    obtain ⟨vc, e, hev, hvc⟩ := hall [w.heap.size] rfl
    have hK' := fun w' => hK [w.heap.size] vc e w' rfl hev hvc
    simp only [evCore] at hev
    split at hev
    · rename_i t hop
      split at hev
      · rename_i z hz
        injection hev with hev; injection hev with h1 h2; subst h1; subst h2
        obtain ⟨i, hi, hz'⟩ := Option.bind_eq_some_iff.1 hz
        have hr : (Instr.alloc t true (.tuple #[])).run P w = .ok (.pointer (some ⟨w.heap.size, 0, none⟩)) (w.alloc (.cells z.cells t)) := by
          simp [Instr.alloc, zeroValue, typeInfo, hi, hz', newVar, newRow]
        simp only [execOp, hop, Sem.run_bind, hr, Result.andThen_ok, Sem.run_pure]
        exact hK' _ (post_new hm ha nx z.cells t)
      · cases hev
    · rename_i t x hop
      injection hev with hev; injection hev with h1 h2; subst h1; subst h2
      have hr : (Instr.box t (ρ x)).run P w = .ok (.pointer (some ⟨w.heap.size, 0, none⟩)) (w.alloc (.cells (ρ x).cells t)) := by
        simp [Instr.box, newVar, newRow]
      simp only [execOp, hop, Sem.run_bind, hr, Result.andThen_ok, Sem.run_pure]
      exact hK' _ (post_new hm ha nx (ρ x).cells t)
    · cases hev
  | call ps k nb v out =>
    have hlen0 : (List.replicate k 0).length = k := by simp
    obtain ⟨vc, e, hev, hvc⟩ := hall (List.replicate k 0) hlen0
    simp only [evCore] at hev hall hK
    cases hpr : pureRun P (execOp ρ o) with
    | none => rw [hpr] at hev; cases hev
    | some n =>
      cases n <;> rw [hpr] at hev <;> try (cases hev; done)
      rename_i f args
      simp only at hev
      rw [hpr] at hall hK
      simp only at hall hK
      cases hl : lendL m ps with
      | none => rw [hl] at hev; cases hev
      | some bs =>
        rw [hl] at hev hall hK
        simp only at hev hall hK
        rw [pureRun_run hpr]
        split at hev
        · rename_i hchk
          injection hev with hev; injection hev with h1 h2; subst h1
          simp only [Bool.and_eq_true] at hchk
          have hc := hvc w (lend_holds hm hl) (lend_apart ha hl hchk.1)
          rw [Array.toArray_toList] at hc
          refine Calls.mono hc ?_
          rintro e' w' ⟨ns, hns, rfl, hpost⟩
          obtain ⟨vc2, e2, hev2, hvc2⟩ := hall ns hns
          have hK2 := hK ns vc2 e2 w' hns hev2 hvc2
          split at hev2
          · rename_i hchk2
            injection hev2 with hev2; injection hev2 with h3 h4; subst h4
            simp only [Bool.and_eq_true] at hchk2
            have hle : ps.length ≤ (out ns).length := by
              have := Nat.eq_of_beq_eq_true hchk2.2
              omega
            exact hK2 (post_frame hm ha hl hle hpost)
          · cases hev2
        · cases hev
  | callO ps k nb v out =>
    have hlen0 : (List.replicate k 0).length = k := by simp
    obtain ⟨vc, e, hev, hvc⟩ := hall (List.replicate k 0) hlen0
    simp only [evCore] at hev hall hK
    cases hpr : pureRun P (execOp ρ o) with
    | none => rw [hpr] at hev; cases hev
    | some n =>
      cases n <;> rw [hpr] at hev <;> try (cases hev; done)
      rename_i f args
      simp only at hev
      rw [hpr] at hall hK
      simp only at hall hK
      rw [pureRun_run hpr]
      split at hev
      · rename_i hchk
        injection hev with hev; injection hev with h1 h2; subst h1
        simp only [Bool.and_eq_true] at hchk
        have hc := hvc w (lendO_holds hm) (lendO_apart ha hchk.1) (fam_lendO hF)
        rw [Array.toArray_toList] at hc
        refine Calls.mono hc ?_
        rintro e' w' ⟨ns, hns, rfl, hpost⟩
        obtain ⟨vc2, e2, hev2, hvc2⟩ := hall ns hns
        have hK2 := hK ns vc2 e2 w' hns hev2 hvc2
        split at hev2
        · rename_i hchk2
          injection hev2 with hev2; injection hev2 with h3 h4; subst h4
          simp only [Bool.and_eq_true] at hchk2
          have hle : ps.length ≤ (out ns).length := by
            have := Nat.eq_of_beq_eq_true hchk2.2
            omega
          exact hK2 (post_frameO hm ha hle hpost)
        · cases hev2
      · cases hev
  | othO ps k nb v out =>
    have hlen0 : (List.replicate k 0).length = k := by simp
    obtain ⟨vc, e, hev, hvc⟩ := hall (List.replicate k 0) hlen0
    simp only [evCore] at hev hall hK
    split at hev
    · rename_i hchk
      injection hev with hev; injection hev with h1 h2; subst h1
      simp only [Bool.and_eq_true] at hchk
      obtain ⟨ns, w', hns, hrun, hpost⟩ := hvc w (lendO_holds hm) (lendO_apart ha hchk.1)
      obtain ⟨vc2, e2, hev2, hvc2⟩ := hall ns hns
      have hK2 := hK ns vc2 e2 w' hns hev2 hvc2
      split at hev2
      · rename_i hchk2
        injection hev2 with hev2; injection hev2 with h3 h4; subst h4
        simp only [Bool.and_eq_true] at hchk2
        have hle : ps.length ≤ (out ns).length := by
          have := Nat.eq_of_beq_eq_true hchk2.2
          omega
        have := hK2 (post_frameO hm ha hle hpost)
        rcases hrun with hrun | ⟨hrun, hv⟩
        · rw [hrun]; exact this
        · rw [hrun]
          simp only [hv] at this
          exact this
      · cases hev2
    · cases hev
  | othOB ps k nb v out =>
    have hlen0 : (List.replicate k 0).length = k := by simp
    obtain ⟨vc, e, hev, hvc⟩ := hall (List.replicate k 0) hlen0
    simp only [evCore] at hev hall hK
    split at hev
    · rename_i hchk
      injection hev with hev; injection hev with h1 h2; subst h1
      simp only [Bool.and_eq_true] at hchk
      obtain ⟨ns, w', hns, hrun, hpost⟩ := hvc w (lendO_holds hm) (lendO_apart ha hchk.1)
      obtain ⟨vc2, e2, hev2, hvc2⟩ := hall ns hns
      have hK2 := hK ns vc2 e2 w' hns hev2 hvc2
      split at hev2
      · rename_i hchk2
        injection hev2 with hev2; injection hev2 with h3 h4; subst h4
        simp only [Bool.and_eq_true] at hchk2
        have hle : ps.length ≤ (out (lendO m ps) ns).length := by
          have := Nat.eq_of_beq_eq_true hchk2.2
          omega
        have := hK2 (post_frameO hm ha hle hpost)
        rcases hrun with hrun | ⟨hrun, hv⟩
        · rw [hrun]; exact this
        · rw [hrun]
          simp only [hv] at this
          exact this
      · cases hev2
    · cases hev
  | callF ps k nb v out =>
    have hlen0 : (List.replicate k 0).length = k := by simp
    obtain ⟨vc, e, hev, hvc⟩ := hall (List.replicate k 0) hlen0
    simp only [evCore] at hev hall hK
    cases hpr : pureRun P (execOp ρ o) with
    | none => rw [hpr] at hev; cases hev
    | some n =>
      cases n <;> rw [hpr] at hev <;> try (cases hev; done)
      rename_i f args
      simp only at hev
      rw [hpr] at hall hK
      simp only at hall hK
      cases hl : lendL m ps with
      | none => rw [hl] at hev; cases hev
      | some bs =>
        rw [hl] at hev hall hK
        simp only at hev hall hK
        rw [pureRun_run hpr]
        split at hev
        · rename_i hchk
          injection hev with hev; injection hev with h1 h2; subst h1
          simp only [Bool.and_eq_true] at hchk
          have hc := hvc w (lend_holds hm hl) (lend_apart ha hl hchk.1) (fam_lend hl hF)
          rw [Array.toArray_toList] at hc
          refine Calls.mono hc ?_
          rintro e' w' ⟨ns, hns, rfl, hpost⟩
          obtain ⟨vc2, e2, hev2, hvc2⟩ := hall ns hns
          have hK2 := hK ns vc2 e2 w' hns hev2 hvc2
          split at hev2
          · rename_i hchk2
            injection hev2 with hev2; injection hev2 with h3 h4; subst h4
            simp only [Bool.and_eq_true] at hchk2
            have hle : ps.length ≤ (out ns).length := by
              have := Nat.eq_of_beq_eq_true hchk2.2
              omega
            exact hK2 (post_frame hm ha hl hle hpost)
          · cases hev2
        · cases hev
  | callM ps k nb v out =>
    have hlen0 : (List.replicate k 0).length = k := by simp
    obtain ⟨vc, e, hev, hvc⟩ := hall (List.replicate k 0) hlen0
    simp only [evCore] at hev hall hK
    cases hl : lendL m ps with
    | none => rw [hl] at hev; cases hev
    | some bs =>
      rw [hl] at hev hall hK
      simp only at hev hall hK
      split at hev
      · rename_i hchk
        injection hev with hev; injection hev with h1 h2; subst h1
        simp only [Bool.and_eq_true] at hchk
        obtain ⟨f, args, hr, hc⟩ := hvc w (lend_holds hm hl) (lend_apart ha hl hchk.1) (fam_lend hl hF)
        rw [hr]
        refine Calls.mono hc ?_
        rintro e' w' ⟨ns, hns, rfl, hpost⟩
        obtain ⟨vc2, e2, hev2, hvc2⟩ := hall ns hns
        have hK2 := hK ns vc2 e2 w' hns hev2 hvc2
        split at hev2
        · rename_i hchk2
          injection hev2 with hev2; injection hev2 with h3 h4; subst h4
          simp only [Bool.and_eq_true] at hchk2
          have hle : ps.length ≤ (out ns).length := by
            have := Nat.eq_of_beq_eq_true hchk2.2
            omega
          exact hK2 (post_frame hm ha hl hle hpost)
        · cases hev2
      · cases hev
  | oth ps k nb v out =>
    have hlen0 : (List.replicate k 0).length = k := by simp
    obtain ⟨vc, e, hev, hvc⟩ := hall (List.replicate k 0) hlen0
    simp only [evCore] at hev hall hK
    cases hl : lendL m ps with
    | none => rw [hl] at hev; cases hev
    | some bs =>
      rw [hl] at hev hall hK
      simp only at hev hall hK
      split at hev
      · rename_i hchk
        injection hev with hev; injection hev with h1 h2; subst h1
        simp only [Bool.and_eq_true] at hchk
        obtain ⟨ns, w', hns, hrun, hpost⟩ := hvc w (lend_holds hm hl) (lend_apart ha hl hchk.1)
        obtain ⟨vc2, e2, hev2, hvc2⟩ := hall ns hns
        have hK2 := hK ns vc2 e2 w' hns hev2 hvc2
        split at hev2
        · rename_i hchk2
          injection hev2 with hev2; injection hev2 with h3 h4; subst h4
          simp only [Bool.and_eq_true] at hchk2
          have hle : ps.length ≤ (out ns).length := by
            have := Nat.eq_of_beq_eq_true hchk2.2
            omega
          have := hK2 (post_frame hm ha hl hle hpost)
          rcases hrun with hrun | ⟨hrun, hv⟩
          · rw [hrun]; exact this
          · rw [hrun]
            simp only [hv] at this
            exact this
        · cases hev2
      · cases hev
  | othF ps k nb v out =>
    have hlen0 : (List.replicate k 0).length = k := by simp
    obtain ⟨vc, e, hev, hvc⟩ := hall (List.replicate k 0) hlen0
    simp only [evCore] at hev hall hK
    cases hl : lendL m ps with
    | none => rw [hl] at hev; cases hev
    | some bs =>
      rw [hl] at hev hall hK
      simp only at hev hall hK
      split at hev
      · rename_i hchk
        injection hev with hev; injection hev with h1 h2; subst h1
        simp only [Bool.and_eq_true] at hchk
        obtain ⟨ns, w', hns, hrun, hpost⟩ := hvc w (lend_holds hm hl) (lend_apart ha hl hchk.1) (fam_lend hl hF)
        obtain ⟨vc2, e2, hev2, hvc2⟩ := hall ns hns
        have hK2 := hK ns vc2 e2 w' hns hev2 hvc2
        split at hev2
        · rename_i hchk2
          injection hev2 with hev2; injection hev2 with h3 h4; subst h4
          simp only [Bool.and_eq_true] at hchk2
          have hle : ps.length ≤ (out ns).length := by
            have := Nat.eq_of_beq_eq_true hchk2.2
            omega
          have := hK2 (post_frame hm ha hl hle hpost)
          rcases hrun with hrun | ⟨hrun, hv⟩
          · rw [hrun]; exact this
          · rw [hrun]
            simp only [hv] at this
            exact this
        · cases hev2
      · cases hev
  | othB ps k nb v out =>
    have hlen0 : (List.replicate k 0).length = k := by simp
    obtain ⟨vc, e, hev, hvc⟩ := hall (List.replicate k 0) hlen0
    simp only [evCore] at hev hall hK
    cases hl : lendL m ps with
    | none => rw [hl] at hev; cases hev
    | some bs =>
      rw [hl] at hev hall hK
      simp only at hev hall hK
      split at hev
      · rename_i hchk
        injection hev with hev; injection hev with h1 h2; subst h1
        simp only [Bool.and_eq_true] at hchk
        obtain ⟨ns, w', hns, hrun, hpost⟩ := hvc w (lend_holds hm hl) (lend_apart ha hl hchk.1)
        obtain ⟨vc2, e2, hev2, hvc2⟩ := hall ns hns
        have hK2 := hK ns vc2 e2 w' hns hev2 hvc2
        split at hev2
        · rename_i hchk2
          injection hev2 with hev2; injection hev2 with h3 h4; subst h4
          simp only [Bool.and_eq_true] at hchk2
          have hle : ps.length ≤ (out bs ns).length := by
            have := Nat.eq_of_beq_eq_true hchk2.2
            omega
          have := hK2 (post_frame hm ha hl hle hpost)
          rcases hrun with hrun | ⟨hrun, hv⟩
          · rw [hrun]; exact this
          · rw [hrun]
            simp only [hv] at this
            exact this
        · cases hev2
      · cases hev
  | pk =>
    obtain ⟨_, _, hev, _⟩ := hall (List.replicate _ 0) List.length_replicate
    simp [evCore] at hev
  | run h =>
    obtain ⟨_, _, hev, _⟩ := hall (List.replicate _ 0) List.length_replicate
    simp [evCore] at hev
  | skip =>
    obtain ⟨_, _, hev, _⟩ := hall (List.replicate _ 0) List.length_replicate
    simp [evCore] at hev
  | opt h =>
    obtain ⟨_, _, hev, _⟩ := hall (List.replicate _ 0) List.length_replicate
    simp [evCore] at hev
end Go.Eng
end
section
namespace Go.Eng
variable {ds : Nat}
def opdEV (env : Nat → Option EV) : Operand → Option EV
  | .tmp t => env t
  | .const v => some (.v v)
  | .global g => some (.v (.pointer (some ⟨g, 0, none⟩)))
  | .func f => some (.v (.func (.func f) #[] #[]))
def rho (env : Nat → Option EV) (x : Operand) : Value := match opdEV env x with
  | some e => e.val
  | none => undef
def known (env : Nat → Option EV) : List Operand → Bool
  | [] => true
  | x :: r => match opdEV env x with
    | some _ => known env r
    | none => false
def condOf : Option EV → Prop
  | some (.c g _) => g = true
  | _ => True
def conds (env : Nat → Option EV) : List Operand → Prop
  | [] => True
  | x :: r => match opdEV env x with
    | some (.c g _) => g = true ∧ conds env r
    | _ => conds env r
structure Got where
  val : EV
  upd : List (Nat × Option Blk)
def selB (g p q : Bool) : Bool := match g with | true => p | false => q
theorem selB_and (a b : Bool) : selB a b false = (a && b) := by cases a <;> rfl
def pickVal (g : Bool) (u v : Value) : Value := match u, v with
  | .bool p, .bool q => .bool (selB g p q)
  | u, v => match g with | true => u | false => v
theorem pickVal_eq (g : Bool) (u v : Value) : pickVal g u v = if g then u else v := by
  cases u <;> cases v <;> cases g <;> rfl
def evPick (env : Nat → Option EV) (o : Oper) : Option (Prop × Value) := match o.op with
  | .pick c x y => match opdEV env c, opdEV env x, opdEV env y with
    | some ec, some ex, some ey => match ec.val with
      | .bool g => some (condOf (some ec) ∧ (g = true → condOf (some ex)) ∧ (g = false → condOf (some ey)), pickVal g ex.val ey.val)
      | _ => none
    | _, _, _ => none
  | _ => none
def evPlain (F : Blk → Prop) (P : Program) (o : Oper) (s : FSt) (nx : Nat) (ns : List Nat) : OpH → Option (Prop × Eff)
  | .pk => match evPick s.env o with
    | some (vc, v) => some (vc, ⟨v, []⟩)
    | none => none
  | h => match known s.env o.op.operands.toList with
    | true => match evCore F P o (rho s.env) s.mem nx ns h with
      | some (vc, e) => some (conds s.env o.op.operands.toList ∧ vc, e)
      | none => none
    | false => none
def sameB (b want : Bool) : Bool := match want with
  | true => b
  | false => !b
def gval (ops : Array Oper) (env : Nat → Option EV) (j : Nat) (want : Bool) : Option Bool := match (ops[j]?).bind (·.dst) with
  | some t => match env t with
    | some (.v (.bool b)) => some (sameB b want)
    | some (.c g (.bool b)) => some (selB g (sameB b want) false)
    | _ => none
  | none => none
def evGuard (F : Blk → Prop) (P : Program) (o : Oper) (s : FSt) (nx : Nat) (ns : List Nat) (b : Bool) : OpH → Option (Prop × Got)
  | .skip => some (b = false, ⟨.v undef, []⟩)
  | .run h => match evPlain F P o s nx ns h with
    | some (vc, e) => some (b = true ∧ vc, ⟨.v e.val, e.upd⟩)
    | none => none
  | .opt h => match evPlain F P o s nx ns h with
    | some (vc, ⟨v, []⟩) => some ((b = true → vc), ⟨.c b v, []⟩)
    | _ => none
  | _ => none
def evOp (F : Blk → Prop) (P : Program) (ops : Array Oper) (o : Oper) (s : FSt) (nx : Nat) (ns : List Nat) (h : OpH) : Option (Prop × Got) := match o.guard with
  | none => match evPlain F P o s nx ns h with
    | some (vc, e) => some (vc, ⟨.v e.val, e.upd⟩)
    | none => none
  | some (j, want) => match gval ops s.env j want with
    | some b => evGuard F P o s nx ns b h
    | none => none
def FSt.apply (s : FSt) (dst : Option Tmp) (e : Got) : FSt where
  env := fun t => match dst with
    | some d => match Nat.beq d t with
      | true => some e.val
      | false => s.env t
    | none => s.env t
  mem := memApply s.mem e.upd
theorem conds_get {env : Nat → Option EV} : ∀ {l : List Operand}, conds env l → ∀ x ∈ l, ∀ e, opdEV env x = some e → e.den = e.val
  | [], _, x, hx, _, _ => by cases hx
  | y :: r, h, x, hx, e, he => by
    simp only [conds] at h
    rcases List.mem_cons.1 hx with rfl | hx
    · split at h
      · rename_i g v heq
        rw [heq] at he
        injection he with he; subst he
        obtain ⟨rfl, _⟩ := h
        rfl
      · rename_i hne
        cases e with
        | v x => rfl
        | c g x => exact absurd he (hne g x)
    · split at h
      · exact conds_get h.2 x hx e he
      · exact conds_get h x hx e he
theorem known_get {env : Nat → Option EV} : ∀ {l : List Operand}, known env l = true → ∀ x ∈ l, ∃ e, opdEV env x = some e
  | [], _, x, hx => by cases hx
  | y :: r, h, x, hx => by
    simp only [known] at h
    split at h
    · rename_i e he
      rcases List.mem_cons.1 hx with rfl | hx
      · exact ⟨e, he⟩
      · exact known_get h x hx
    · cases h
theorem opd_eval {nt : Nat} {s : FSt} {a : Act} {w : World} (hs : Sat ds nt s a w) {x : Operand} {e : EV} (he : opdEV s.env x = some e) : a.eval x = e.den := by
  cases x with
  | tmp t =>
    have := hs.env t e he
    simp [Act.eval, this]
  | const v => injection he with he; subst he; rfl
  | global g => injection he with he; subst he; rfl
  | func f => injection he with he; subst he; rfl
theorem exec_eq {nt : Nat} {s : FSt} {a : Act} {w : World} (hs : Sat ds nt s a w) {o : Oper} (hsel : ∀ cs b, o.op ≠ .select cs b)
    (hk : known s.env o.op.operands.toList = true) (hc : conds s.env o.op.operands.toList) : execOp a.eval o = execOp (rho s.env) o :=
  execOp_congr o hsel fun x hx => by
    obtain ⟨e, he⟩ := known_get hk x (by simpa using hx)
    rw [opd_eval hs he, conds_get hc x (by simpa using hx) e he]
    simp [rho, he]
theorem plain_sound {F : Blk → Prop} {P : Program} {o : Oper} {nt : Nat} {s : FSt} {nx : Nat} {h : OpH} {a : Act} {w : World} {K : Act → World → Prop} {Q : Exit → Act → World → Prop}
    (hs : Sat ds nt s a w) (hF : Fam F s.mem w) (hsel : ∀ cs b, o.op ≠ .select cs b)
    (hall : ∀ ns, ns.length = h.nn → ∃ vc e, evPlain F P o s nx ns h = some (vc, e) ∧ vc)
    (hK : ∀ ns vc e w', ns.length = h.nn → evPlain F P o s nx ns h = some (vc, e) → vc → Post s.mem w (memApply s.mem e.upd) w' → K (a.put o.dst e.val) w') :
    o.wp P a w K Q := by
  by_cases hpk : h = .pk
  · subst hpk
    obtain ⟨vc, e, hev, hvc⟩ := hall [] rfl
    have hK' := hK [] vc e w rfl hev hvc
    simp only [evPlain] at hev
    split at hev
    · rename_i vc' v hp
      injection hev with hev; injection hev with h1 h2; subst h1; subst h2
      unfold evPick at hp
      split at hp
      · rename_i c x y hop
        split at hp
        · rename_i ec ex ey hec hex hey
          split at hp
          · rename_i g hg
            injection hp with hp; injection hp with h1 h2; subst h1; subst h2
            obtain ⟨c1, c2, c3⟩ := hvc
            have e1 : a.eval c = .bool g := by
              rw [opd_eval hs hec, ← hg]
              cases ec with
              | v _ => rfl
              | c gg _ => simp only [condOf] at c1; subst c1; rfl
            have hv : (if g then a.eval x else a.eval y) = pickVal g ex.val ey.val := by
              rw [pickVal_eq]
              cases g with
              | true =>
                rw [if_pos rfl, if_pos rfl, opd_eval hs hex]
                cases ex with
                | v _ => rfl
                | c gg _ => have := c2 rfl; simp only [condOf] at this; subst this; rfl
              | false =>
                rw [if_neg (by simp), if_neg (by simp), opd_eval hs hey]
                cases ey with
                | v _ => rfl
                | c gg _ => have := c3 rfl; simp only [condOf] at this; subst this; rfl
            unfold Oper.wp
            have hrun : (execOp a.eval o).run P w = .ok (.value (if g then a.eval x else a.eval y)) w := by
              simp only [execOp, hop, e1]
              simp [asBool]
            rw [hrun, hv]
            exact hK' (.refl hs.mem hs.apart)
          · cases hp
        · cases hp
      · cases hp
    · cases hev
  · have hP : ∀ ns, evPlain F P o s nx ns h = match known s.env o.op.operands.toList with
      | true => match evCore F P o (rho s.env) s.mem nx ns h with
        | some (vc, e) => some (conds s.env o.op.operands.toList ∧ vc, e)
        | none => none
      | false => none := fun ns => by cases h <;> first | rfl | exact absurd rfl hpk
    cases hk : known s.env o.op.operands.toList with
    | false =>
      obtain ⟨vc, e, hev, _⟩ := hall (List.replicate _ 0) List.length_replicate
      rw [hP, hk] at hev; cases hev
    | true =>
      simp only [hk] at hP
      have hc : conds s.env o.op.operands.toList := by
        obtain ⟨vc, e, hev, hvc⟩ := hall (List.replicate _ 0) List.length_replicate
        rw [hP] at hev
        split at hev
        · injection hev with hev; injection hev with h1 h2; subst h1; exact hvc.1
        · cases hev
      refine core_sound (nx := nx) (h := h) hs.mem hs.apart hF (exec_eq hs hsel hk hc) (fun ns hns => ?_) (fun ns vc e w' hns hev hvc hp => ?_)
      · obtain ⟨vc, e, hev, hvc⟩ := hall ns hns
        rw [hP] at hev
        split at hev
        · rename_i vc' e' hev'
          injection hev with hev; injection hev with h1 h2; subst h1
          exact ⟨vc', e', hev', hvc.2⟩
        · cases hev
      · exact hK ns (conds s.env o.op.operands.toList ∧ vc) e w' hns (by rw [hP, hev]) ⟨hc, hvc⟩ hp
theorem wanted_eq {ops : Array Oper} {nt : Nat} {s : FSt} {a : Act} {w : World} (hs : Sat ds nt s a w) {o : Oper} {j : Nat} {want b : Bool} (hg : o.guard = some (j, want))
    (hv : gval ops s.env j want = some b) : Region.wanted o (yielded ops a.tmps) = b := by
  unfold gval at hv
  cases hd : (ops[j]?).bind (·.dst) with
  | none => rw [hd] at hv; cases hv
  | some t =>
    rw [hd] at hv
    simp only at hv
    have key : ∀ x, a.tmps[t]? = some x → yielded ops a.tmps j = match x with | .bool b => some b | _ => none := fun x hx => by
      unfold yielded
      rw [hd]
      simp only [Option.bind_some, hx]
      cases x <;> rfl
    unfold Region.wanted
    rw [hg]
    simp only
    split at hv
    · rename_i b' he
      rw [key _ (hs.env t _ he)]
      injection hv with hv; subst hv
      cases want <;> cases b' <;> rfl
    · rename_i g b' he
      rw [key _ (hs.env t _ he)]
      injection hv with hv; subst hv
      cases g <;> cases want <;> cases b' <;> rfl
    · cases hv
theorem op_sound {F : Blk → Prop} {P : Program} {ops : Array Oper} {i : Nat} {o : Oper} {nt : Nat} {s : FSt} {nx : Nat} {h : OpH} {a : Act} {w : World} {K : Act → World → Prop} {Q : Exit → Act → World → Prop}
    (hi : ops[i]? = some o) (hs : Sat ds nt s a w) (hF : Fam F s.mem w) (hsel : ∀ cs b, o.op ≠ .select cs b)
    (hall : ∀ ns, ns.length = h.nn → ∃ vc e, evOp F P ops o s nx ns h = some (vc, e) ∧ vc)
    (hK : ∀ ns vc e w', ns.length = h.nn → evOp F P ops o s nx ns h = some (vc, e) → vc → Post s.mem w (memApply s.mem e.upd) w' → K (a.put o.dst e.val.den) w') :
    wpOp P ops Q i K a w := by
  unfold wpOp
  rw [hi]
  simp only
  cases hg : o.guard with
  | none =>
    have hw : Region.wanted o (yielded ops a.tmps) = true := by unfold Region.wanted; rw [hg]
    rw [hw]
    simp only [if_true]
    refine .inl (plain_sound (nx := nx) (h := h) hs hF hsel (fun ns hns => ?_) (fun ns vc e w' hns hev hvc hp => ?_))
    · obtain ⟨vc, e, hev, hvc⟩ := hall ns hns
      unfold evOp at hev
      rw [hg] at hev
      simp only at hev
      split at hev
      · rename_i vc' e' hev'
        injection hev with hev; injection hev with h1 h2; subst h1
        exact ⟨vc', e', hev', hvc⟩
      · cases hev
    · exact hK ns vc ⟨.v e.val, e.upd⟩ w' hns (by unfold evOp; rw [hg]; simp only [hev]) hvc hp
  | some jw =>
    obtain ⟨j, want⟩ := jw
    cases hb : gval ops s.env j want with
    | none =>
      obtain ⟨vc, e, hev, hvc⟩ := hall (List.replicate _ 0) List.length_replicate
      unfold evOp at hev
      rw [hg] at hev
      simp only [hb] at hev
      cases hev
    | some b =>
      rw [wanted_eq hs hg hb]
      have hE : ∀ ns, evOp F P ops o s nx ns h = evGuard F P o s nx ns b h := fun ns => by unfold evOp; rw [hg]; simp only [hb]
      cases h with
      | skip =>
        obtain ⟨vc, e, hev, hvc⟩ := hall [] rfl
        have hK' := hK [] vc e w rfl hev hvc
        rw [hE] at hev; simp only [evGuard] at hev
        injection hev with hev; injection hev with h1 h2; subst h1; subst h2; subst hvc
        simp only [Bool.false_eq_true, if_false]
        exact hK' (.refl hs.mem hs.apart)
      | run h =>
        have hbt : b = true := by
          obtain ⟨vc, e, hev, hvc⟩ := hall (List.replicate _ 0) List.length_replicate
          rw [hE] at hev
          simp only [evGuard] at hev
          split at hev
          · injection hev with hev; injection hev with h1 h2; subst h1; exact hvc.1
          · cases hev
        subst hbt
        simp only [if_true]
        refine .inl (plain_sound (nx := nx) (h := h) hs hF hsel (fun ns hns => ?_) (fun ns vc e w' hns hev hvc hp => ?_))
        · obtain ⟨vc, e, hev, hvc⟩ := hall ns hns
          rw [hE] at hev
          simp only [evGuard] at hev
          split at hev
          · rename_i vc' e' hev'
            injection hev with hev; injection hev with h1 h2; subst h1
            exact ⟨vc', e', hev', hvc.2⟩
          · cases hev
        · exact hK ns (true = true ∧ vc) ⟨.v e.val, e.upd⟩ w' hns (by rw [hE, evGuard, hev]) ⟨rfl, hvc⟩ hp
      | opt h =>
        cases b with
        | false =>
          obtain ⟨vc, e, hev, hvc⟩ := hall (List.replicate _ 0) List.length_replicate
          have hK' := hK _ vc e w List.length_replicate hev hvc
          rw [hE] at hev
          simp only [evGuard] at hev
          split at hev
          · injection hev with hev; injection hev with h1 h2; subst h1; subst h2
            simp only [Bool.false_eq_true, if_false]
            exact hK' (.refl hs.mem hs.apart)
          · cases hev
        | true =>
          simp only [if_true]
          refine .inl (plain_sound (nx := nx) (h := h) hs hF hsel (fun ns hns => ?_) (fun ns vc e w' hns hev hvc hp => ?_))
          · obtain ⟨vc, e, hev, hvc⟩ := hall ns hns
            rw [hE, evGuard] at hev
            split at hev
            · rename_i vc' v' hev'
              injection hev with hev; injection hev with h1 h2; subst h1
              exact ⟨vc', _, hev', hvc rfl⟩
            · cases hev
          · obtain ⟨vc2, e2, hev2, hvc2⟩ := hall ns hns
            rw [hE, evGuard, hev] at hev2
            split at hev2
            · rename_i vc' v' hev'
              injection hev' with hev'; injection hev' with h3 h4; subst h3; subst h4
              exact hK ns (true = true → vc) ⟨.c true v', []⟩ w' hns (by rw [hE, evGuard, hev]) (fun _ => hvc) hp
            · cases hev2
      | _ =>
        obtain ⟨vc, e, hev, hvc⟩ := hall (List.replicate _ 0) List.length_replicate
        rw [hE] at hev; simp [evGuard] at hev
theorem sat_apply {nt : Nat} {s : FSt} {a : Act} {w w' : World} (hs : Sat ds nt s a w) {dst : Option Tmp} (hd : ∀ d, dst = some d → d < nt) {e : Got}
    (hp : Post s.mem w (memApply s.mem e.upd) w') : Sat ds nt (s.apply dst e) (a.put dst e.val.den) w' where
  defers := by have := hs.defers.adv hp.adv; cases dst <;> exact this
  size := by cases dst <;> simp [Act.put, hs.size]
  env t x hx := by
    cases dst with
    | none => exact hs.env t x hx
    | some d =>
      simp only [FSt.apply] at hx
      simp only [Act.put]
      cases hb : Nat.beq d t with
      | true =>
        rw [hb] at hx
        injection hx with hx; subst hx
        have := Nat.eq_of_beq_eq_true hb
        subst this
        rw [Array.getElem?_setIfInBounds_self_of_lt (by rw [hs.size]; exact hd d rfl)]
      | false =>
        rw [hb] at hx
        have : d ≠ t := fun e => by subst e; simp at hb
        rw [Array.getElem?_setIfInBounds_ne this]
        exact hs.env t x hx
  mem p b hb := hp.holds p b hb
  apart := hp.apart
end Go.Eng
end
section
namespace Go.Eng
variable {ds : Nat}
structure St where
  env : List (Nat × EV)
  mem : List (Nat × Option Blk)
  nx : Nat
def memOf (l : List (Nat × Option Blk)) : Nat → Option Blk := fun p => match look l p with
  | some ob => ob
  | none => none
def St.fs (s : St) : FSt := ⟨look s.env, memOf s.mem⟩
def St.apply (s : St) (dst : Option Tmp) (e : Got) (nb : Nat) : St where
  env := match dst with
    | some d => (d, e.val) :: s.env
    | none => s.env
  mem := e.upd ++ s.mem
  nx := s.nx + nb
theorem look_append {β : Type} (a b : List (Nat × β)) (t : Nat) : look (a ++ b) t = match look a t with | some v => some v | none => look b t := by
  induction a with
  | nil => rfl
  | cons x r ih =>
    obtain ⟨k, v⟩ := x
    simp only [List.cons_append, look]
    cases Nat.beq k t with
    | true => rfl
    | false => exact ih
theorem memApply_memOf (l upd : List (Nat × Option Blk)) : memApply (memOf l) upd = memOf (upd ++ l) := by
  funext p
  simp only [memApply, memOf, look_append]
  cases look upd p <;> rfl
theorem St.fs_apply (s : St) (dst : Option Tmp) (e : Got) (nb : Nat) : (s.apply dst e nb).fs = s.fs.apply dst e := by
  unfold St.fs FSt.apply St.apply
  congr 1
  · cases dst with
    | none => rfl
    | some d =>
      funext t
      (simp only [look]) <;> (cases Nat.beq d t <;> rfl)
  · exact (memApply_memOf s.mem e.upd).symm
def opOk (nt : Nat) (o : Oper) : Bool := (match o.dst with
  | some d => Nat.blt d nt
  | none => true) && (match o.op with
  | .select .. => false
  | _ => true)
theorem opOk_dst {nt : Nat} {o : Oper} (h : opOk nt o = true) : ∀ d, o.dst = some d → d < nt := fun d hd => by
  simp only [opOk, hd, Bool.and_eq_true] at h
  have := h.1
  rw [Nat.blt_eq] at this
  exact this
theorem opOk_sel {nt : Nat} {o : Oper} (h : opOk nt o = true) : ∀ cs b, o.op ≠ .select cs b := fun cs b hs => by
  simp [opOk, hs] at h
def nnL : (List (Nat × OpH)) → Nat
  | [] => 0
  | (_, h) :: r => h.nn + nnL r
def nbL : (List (Nat × OpH)) → Nat
  | [] => 0
  | (_, h) :: r => h.nb + nbL r
def evSeq (F : Blk → Prop) (P : Program) (ops : Array Oper) (nt : Nat) : (List (Nat × OpH)) → List Nat → St → Option (Prop × St)
  | [], _, s => some (True, s)
  | (i, h) :: ks, ns, s => match ops[i]? with
    | some o => match opOk nt o with
      | true => match evOp F P ops o s.fs s.nx (ns.take h.nn) h with
        | some (vc, e) => match evSeq F P ops nt ks (ns.drop h.nn) (s.apply o.dst e h.nb) with
          | some (vc', s') => some (vc ∧ vc', s')
          | none => none
        | none => none
      | false => none
    | none => none
theorem evSeq_cons {F : Blk → Prop} {P : Program} {ops : Array Oper} {nt : Nat} {i : Nat} {h : OpH} {ks : (List (Nat × OpH))} {ns : List Nat} {s s' : St} {vc : Prop}
    (hev : evSeq F P ops nt ((i, h) :: ks) ns s = some (vc, s')) :
    ∃ o vc1 e vc2, ops[i]? = some o ∧ opOk nt o = true ∧ evOp F P ops o s.fs s.nx (ns.take h.nn) h = some (vc1, e) ∧
      evSeq F P ops nt ks (ns.drop h.nn) (s.apply o.dst e h.nb) = some (vc2, s') ∧ vc = (vc1 ∧ vc2) := by
  simp only [evSeq] at hev
  split at hev
  · rename_i o ho
    split at hev
    · rename_i hok
      split at hev
      · rename_i vc1 e he
        split at hev
        · rename_i vc2 s2 hs
          injection hev with hev; injection hev with h1 h2; subst h2
          exact ⟨o, vc1, e, vc2, ho, hok, he, hs, h1.symm⟩
        · cases hev
      · cases hev
    · cases hev
  · cases hev
theorem evSeq_mk {F : Blk → Prop} {P : Program} {ops : Array Oper} {nt : Nat} {i : Nat} {h : OpH} {ks : (List (Nat × OpH))} {ns : List Nat} {s s' : St} {o : Oper} {vc1 vc2 : Prop} {e : Got}
    (ho : ops[i]? = some o) (hok : opOk nt o = true) (he : evOp F P ops o s.fs s.nx (ns.take h.nn) h = some (vc1, e))
    (hs : evSeq F P ops nt ks (ns.drop h.nn) (s.apply o.dst e h.nb) = some (vc2, s')) : evSeq F P ops nt ((i, h) :: ks) ns s = some (vc1 ∧ vc2, s') := by
  simp only [evSeq, ho, hok, he, hs]
theorem seq_sound {F : Blk → Prop} {P : Program} {ops : Array Oper} {nt : Nat} {Q : Exit → Act → World → Prop} : ∀ (ks : (List (Nat × OpH))) {s : St} {a : Act} {w : World}, Sat ds nt s.fs a w → Fam F s.fs.mem w →
    (∀ ns, ns.length = nnL ks → ∃ vc s', evSeq F P ops nt ks ns s = some (vc, s') ∧ vc) →
    (∀ ns vc s' a' w', ns.length = nnL ks → evSeq F P ops nt ks ns s = some (vc, s') → vc → Sat ds nt s'.fs a' w' → Adv s.fs.mem w s'.fs.mem w' → Q .normal a' w') →
    wpOps P ops Q (ks.map (·.1)) a w
  | [], s, a, w, hs, hF, hall, hK => hK [] True s a w rfl rfl trivial hs (.refl _ _)
  | (i, h) :: ks, s, a, w, hs, hF, hall, hK => by
    obtain ⟨vc, s', hev, hvc⟩ := hall (List.replicate _ 0) List.length_replicate
    obtain ⟨o, vc1, e, vc2, ho, hok, he, hr, hv⟩ := evSeq_cons hev
    show wpOps P ops Q (i :: ks.map (·.1)) a w
    rw [wpOps_cons]
    refine op_sound (nx := s.nx) (h := h) ho hs hF (opOk_sel hok) (fun ns hns => ?_) (fun ns vc1' e' w' hns hev' hvc1 hp => ?_)
    · obtain ⟨vc, s', hev, hvc⟩ := hall (ns ++ List.replicate (nnL ks) 0) (by simp [nnL, hns])
      obtain ⟨o', vc1, e, vc2, ho', hok, he, hr, rfl⟩ := evSeq_cons hev
      rw [ho] at ho'; injection ho' with ho'; subst ho'
      rw [List.take_left' hns] at he
      exact ⟨vc1, e, he, hvc.1⟩
    · have hsat := sat_apply hs (opOk_dst hok) hp
      rw [← St.fs_apply s o.dst e' h.nb] at hsat
      have hmem : (s.apply o.dst e' h.nb).fs.mem = memApply s.fs.mem e'.upd := by rw [St.fs_apply]; rfl
      refine seq_sound ks hsat (hmem ▸ hF.adv hp.adv) (fun ns2 hns2 => ?_) (fun ns2 vc2 s2 a2 w2 hns2 hev2 hvc2 hsat2 hadv2 => ?_)
      · obtain ⟨vc, s', hev, hvc⟩ := hall (ns ++ ns2) (by simp [nnL, hns, hns2])
        obtain ⟨o', vc1, e, vc2, ho', hok, he, hr, rfl⟩ := evSeq_cons hev
        rw [ho] at ho'; injection ho' with ho'; subst ho'
        rw [List.take_left' hns, hev'] at he
        injection he with he; injection he with h1 h2; subst h2
        rw [List.drop_left' hns] at hr
        exact ⟨vc2, s', hr, hvc.2⟩
      · refine hK (ns ++ ns2) (vc1' ∧ vc2) s2 a2 w2 (by simp [nnL, hns, hns2]) ?_ ⟨hvc1, hvc2⟩ hsat2 ((hp.adv).trans (hmem ▸ hadv2))
        exact evSeq_mk ho hok (by rw [List.take_left' hns]; exact hev') (by rw [List.drop_left' hns]; exact hev2)
end Go.Eng
end
section
namespace Go.Eng
theorem opdEV_congr {env env' : Nat → Option EV} {x : Operand} (h : ∀ t, x = .tmp t → env t = env' t) : opdEV env x = opdEV env' x := by
  cases x <;> simp [opdEV, h]
theorem rho_congr {env env' : Nat → Option EV} {x : Operand} (h : ∀ t, x = .tmp t → env t = env' t) : rho env x = rho env' x := by
  unfold rho; rw [opdEV_congr h]
theorem known_congr {env env' : Nat → Option EV} : ∀ {l : List Operand}, (∀ x ∈ l, opdEV env x = opdEV env' x) → known env l = known env' l
  | [], _ => rfl
  | x :: r, h => by
    simp only [known, h x (by simp)]
    rw [known_congr (l := r) fun y hy => h y (by simp [hy])]
theorem conds_congr {env env' : Nat → Option EV} : ∀ {l : List Operand}, (∀ x ∈ l, opdEV env x = opdEV env' x) → conds env l = conds env' l
  | [], _ => rfl
  | x :: r, h => by
    simp only [conds, h x (by simp)]
    rw [conds_congr (l := r) fun y hy => h y (by simp [hy])]
theorem lendL_congr {m m' : Nat → Option Blk} : ∀ {ps : List (Nat × Bool)}, (∀ p ro, (p, ro) ∈ ps → m p = m' p) → lendL m ps = lendL m' ps
  | [], _ => rfl
  | (p, ro) :: r, h => by
    simp only [lendL, h p ro (by simp)]
    rw [lendL_congr (ps := r) fun q s hq => h q s (by simp [hq])]
theorem lendO_congr {m m' : Nat → Option Blk} : ∀ {ps : List (Nat × Bool)}, (∀ p ro, (p, ro) ∈ ps → m p = m' p) → lendO m ps = lendO m' ps
  | [], _ => rfl
  | (p, ro) :: r, h => by
    simp only [lendO, h p ro (by simp)]
    rw [lendO_congr (ps := r) fun q s hq => h q s (by simp [hq])]
theorem evCore_congr {F : Blk → Prop} {P : Program} {o : Oper} {ρ ρ' : Operand → Value} {m m' : Nat → Option Blk} {nx : Nat} {ns : List Nat} {h : OpH}
    (hsel : ∀ cs b, o.op ≠ .select cs b) (hρ : ∀ x ∈ o.op.operands, ρ x = ρ' x) (hm : ∀ p ro, (p, ro) ∈ h.ps → m p = m' p) : evCore F P o ρ m nx ns h = evCore F P o ρ' m' nx ns h := by
  have hex : execOp ρ o = execOp ρ' o := execOp_congr o hsel hρ
  cases h with
  | g => simp only [evCore, hex]
  | as v =>
    have hv : o.op.operands.toList.map ρ = o.op.operands.toList.map ρ' := List.map_congr_left fun x hx => hρ x (by simpa using hx)
    simp only [evCore, hv]
  | asf f =>
    have hv : o.op.operands.toList.map ρ = o.op.operands.toList.map ρ' := List.map_congr_left fun x hx => hρ x (by simpa using hx)
    simp only [evCore, hv]
  | ld p l =>
    simp only [evCore, hm p true (by simp [OpH.ps])]
    split
    · rename_i t x hop
      rw [hρ x (by simp [hop, Op.operands])]
    · rfl
  | st p l =>
    simp only [evCore, hm p false (by simp [OpH.ps])]
    split
    · rename_i t x y hop
      rw [hρ x (by simp [hop, Op.operands]), hρ y (by simp [hop, Op.operands])]
    · rfl
  | stc p l c =>
    simp only [evCore, hm p false (by simp [OpH.ps])]
    split
    · rename_i t x y hop
      rw [hρ x (by simp [hop, Op.operands]), hρ y (by simp [hop, Op.operands])]
    · rfl
  | new =>
    simp only [evCore]
    split
    · split
      · rfl
      · rename_i t x hop
        rw [hρ x (by simp [hop, Op.operands])]
      · rfl
    · rfl
  | bsl =>
    have hb : bslB P o ρ = bslB P o ρ' := by
      unfold bslB
      split
      · rename_i t len parts hop
        have : (parts.map fun (k, x) => (k, ρ x)) = parts.map fun (k, x) => (k, ρ' x) := by
          refine Array.map_congr_left fun a ha => ?_
          obtain ⟨k, x⟩ := a
          simp only [Prod.mk.injEq, true_and]
          exact hρ x (by
            rw [hop]
            simp only [Op.operands, List.mem_toArray, List.mem_map]
            exact ⟨(k, x), by simpa using ha, rfl⟩)
        rw [this]
      · rfl
    simp only [evCore, hex, hb]
  | upd p c => simp only [evCore, hex, hm p false (by simp [OpH.ps])]
  | call ps k nb v out => simp only [evCore, hex, lendL_congr (ps := ps) (fun p ro hp => hm p ro hp)]
  | callF ps k nb v out => simp only [evCore, hex, lendL_congr (ps := ps) (fun p ro hp => hm p ro hp)]
  | callM ps k nb v out => simp only [evCore, hex, lendL_congr (ps := ps) (fun p ro hp => hm p ro hp)]
  | callO ps k nb v out => simp only [evCore, hex, lendO_congr (ps := ps) (fun p ro hp => hm p ro hp)]
  | othO ps k nb v out => simp only [evCore, hex, lendO_congr (ps := ps) (fun p ro hp => hm p ro hp)]
  | othOB ps k nb v out => simp only [evCore, hex, lendO_congr (ps := ps) (fun p ro hp => hm p ro hp)]
  | oth ps k nb v out => simp only [evCore, hex, lendL_congr (ps := ps) (fun p ro hp => hm p ro hp)]
  | othF ps k nb v out => simp only [evCore, hex, lendL_congr (ps := ps) (fun p ro hp => hm p ro hp)]
  | othB ps k nb v out => simp only [evCore, hex, lendL_congr (ps := ps) (fun p ro hp => hm p ro hp)]
  | pk => rfl
  | run h => rfl
  | skip => rfl
  | opt h => rfl
theorem evPlain_congr {F : Blk → Prop} {P : Program} {o : Oper} {s s' : FSt} {nx : Nat} {ns : List Nat} {h : OpH} (hsel : ∀ cs b, o.op ≠ .select cs b)
    (he : ∀ t, Operand.tmp t ∈ o.op.operands → s.env t = s'.env t) (hm : ∀ p ro, (p, ro) ∈ h.ps → s.mem p = s'.mem p) : evPlain F P o s nx ns h = evPlain F P o s' nx ns h := by
  have hop : ∀ x ∈ o.op.operands, opdEV s.env x = opdEV s'.env x := fun x hx => opdEV_congr fun t ht => he t (ht ▸ hx)
  by_cases hpk : h = .pk
  · subst hpk
    have : evPick s.env o = evPick s'.env o := by
      unfold evPick
      split
      · rename_i c x y hpick
        rw [hop c (by simp [hpick, Op.operands]), hop x (by simp [hpick, Op.operands]), hop y (by simp [hpick, Op.operands])]
      · rfl
    simp only [evPlain, this]
  · have hP : ∀ s : FSt, evPlain F P o s nx ns h = match known s.env o.op.operands.toList with
      | true => match evCore F P o (rho s.env) s.mem nx ns h with
        | some (vc, e) => some (conds s.env o.op.operands.toList ∧ vc, e)
        | none => none
      | false => none := fun s => by cases h <;> first | rfl | exact absurd rfl hpk
    have hc : evCore F P o (rho s.env) s.mem nx ns h = evCore F P o (rho s'.env) s'.mem nx ns h :=
      evCore_congr hsel (fun x hx => rho_congr fun t ht => he t (ht ▸ hx)) hm
    rw [hP, hP, hc, known_congr (env' := s'.env) (fun x hx => hop x (by simpa using hx)), conds_congr (env' := s'.env) (fun x hx => hop x (by simpa using hx))]
theorem evOp_congr {F : Blk → Prop} {P : Program} {ops : Array Oper} {o : Oper} {s s' : FSt} {nx : Nat} {ns : List Nat} {h : OpH} (hsel : ∀ cs b, o.op ≠ .select cs b)
    (he : ∀ t ∈ o.looksAt ops, s.env t = s'.env t) (hm : ∀ p ro, (p, ro) ∈ h.ps → s.mem p = s'.mem p) : evOp F P ops o s nx ns h = evOp F P ops o s' nx ns h := by
  have he' : ∀ t, Operand.tmp t ∈ o.op.operands → s.env t = s'.env t := fun t ht => he t (by
    unfold Oper.looksAt
    exact List.mem_append_left _ (List.mem_filterMap.2 ⟨.tmp t, by simpa using ht, rfl⟩))
  unfold evOp
  cases hg : o.guard with
  | none => simp only [evPlain_congr (nx := nx) (ns := ns) hsel he' hm]
  | some jw =>
    obtain ⟨j, want⟩ := jw
    have hgv : gval ops s.env j want = gval ops s'.env j want := by
      unfold gval
      cases hd : (ops[j]?).bind (·.dst) with
      | none => rfl
      | some t =>
        simp only
        rw [he t (by unfold Oper.looksAt; rw [hg]; exact List.mem_append_right _ (by simp [hd]))]
    simp only [hgv]
    split
    · rename_i b hb
      cases h with
      | run h => simp only [evGuard, evPlain_congr (h := h) (nx := nx) (ns := ns) hsel he' hm]
      | opt h => simp only [evGuard, evPlain_congr (h := h) (nx := nx) (ns := ns) hsel he' hm]
      | _ => rfl
    · rfl
def OpH.wrs (h : OpH) (nx : Nat) : List Nat := (h.ps.filterMap fun x => match x.2 with | true => none | false => some x.1) ++ (List.range h.nb).map (nx + ·)
def OpH.tch (h : OpH) (nx : Nat) : List Nat := h.ps.map (·.1) ++ (List.range h.nb).map (nx + ·)
theorem evCore_wrs {F : Blk → Prop} {P : Program} {o : Oper} {ρ : Operand → Value} {m : Nat → Option Blk} {nx : Nat} {ns : List Nat} {h : OpH} {vc : Prop} {e : Eff}
    (hev : evCore F P o ρ m nx ns h = some (vc, e)) : ∀ p, look e.upd p ≠ none → p ∈ h.wrs nx := by
  intro p hp
  have hcall : ∀ (ps : List (Nat × Bool)) (nb : Nat) (out : List (Option Blk)), newIn ps nb out = true → look (outUpd ps nx out) p ≠ none →
      p ∈ (ps.filterMap fun x => match x.2 with | true => none | false => some x.1) ++ (List.range nb).map (nx + ·) := fun ps nb out hn hl => by
    cases hlk : look (outUpd ps nx out) p with
    | none => exact absurd hlk hl
    | some ob =>
      obtain ⟨i, hi, hpos⟩ := outUpd_look ps nx out p ob hlk
      rcases hpos with h1 | ⟨h1, h2⟩
      · exact List.mem_append_left _ (List.mem_filterMap.2 ⟨(p, false), List.mem_of_getElem? h1, rfl⟩)
      · have hlen := Nat.eq_of_beq_eq_true hn
        have hio := (List.getElem?_eq_some_iff.1 hi).1
        exact List.mem_append_right _ (List.mem_map.2 ⟨i - ps.length, List.mem_range.2 (by omega), by omega⟩)
  have hone : ∀ (q : Nat) (ob : Option Blk), look [(q, ob)] p ≠ none → p = q := fun q ob hl => by
    simp only [look_cons, look_nil] at hl
    split at hl
    · rename_i hq; exact hq.symm
    · exact absurd rfl hl
  cases h with
  | g =>
    simp only [evCore] at hev
    split at hev <;> first | (injection hev with hev; injection hev with h1 h2; subst h2; exact absurd rfl hp) | cases hev
  | as v => simp only [evCore] at hev; injection hev with hev; injection hev with h1 h2; subst h2; exact absurd rfl hp
  | asf f => simp only [evCore] at hev; injection hev with hev; injection hev with h1 h2; subst h2; exact absurd rfl hp
  | ld q l =>
    simp only [evCore] at hev
    repeat' (first | (injection hev with hev; injection hev with h1 h2; subst h2; exact absurd rfl hp) | (cases hev; done) | split at hev)
  | st q l =>
    simp only [evCore] at hev
    repeat' (first | (injection hev with hev; injection hev with h1 h2; subst h2; have hq := hone _ _ hp; subst hq; simp [OpH.wrs, OpH.ps]) | (cases hev; done) | split at hev)
  | stc q l c =>
    simp only [evCore] at hev
    repeat' (first | (injection hev with hev; injection hev with h1 h2; subst h2; have hq := hone _ _ hp; subst hq; simp [OpH.wrs, OpH.ps]) | (cases hev; done) | split at hev)
  | upd q c =>
    simp only [evCore] at hev
    repeat' (first | (injection hev with hev; injection hev with h1 h2; subst h2; have hq := hone _ _ hp; subst hq; simp [OpH.wrs, OpH.ps]) | (cases hev; done) | split at hev)
  | new =>
    simp only [evCore] at hev
    repeat' (first | (injection hev with hev; injection hev with h1 h2; subst h2; have hq := hone _ _ hp; subst hq; simp [OpH.wrs, OpH.nb]) | (cases hev; done) | split at hev)
  | bsl =>
    simp only [evCore] at hev
    repeat' (first | (injection hev with hev; injection hev with h1 h2; subst h2; have hq := hone _ _ hp; subst hq; simp [OpH.wrs, OpH.nb]) | (cases hev; done) | split at hev)
  | call ps k nb v out =>
    simp only [evCore] at hev
    repeat' (first | (injection hev with hev; injection hev with h1 h2; subst h2; rename_i hchk; simp only [Bool.and_eq_true] at hchk; exact hcall ps nb _ hchk.2 hp) | (cases hev; done) | split at hev)
  | callF ps k nb v out =>
    simp only [evCore] at hev
    repeat' (first | (injection hev with hev; injection hev with h1 h2; subst h2; rename_i hchk; simp only [Bool.and_eq_true] at hchk; exact hcall ps nb _ hchk.2 hp) | (cases hev; done) | split at hev)
  | callM ps k nb v out =>
    simp only [evCore] at hev
    repeat' (first | (injection hev with hev; injection hev with h1 h2; subst h2; rename_i hchk; simp only [Bool.and_eq_true] at hchk; exact hcall ps nb _ hchk.2 hp) | (cases hev; done) | split at hev)
  | callO ps k nb v out =>
    simp only [evCore] at hev
    repeat' (first | (injection hev with hev; injection hev with h1 h2; subst h2; rename_i hchk; simp only [Bool.and_eq_true] at hchk; exact hcall ps nb _ hchk.2 hp) | (cases hev; done) | split at hev)
  | othO ps k nb v out =>
    simp only [evCore] at hev
    repeat' (first | (injection hev with hev; injection hev with h1 h2; subst h2; rename_i hchk; simp only [Bool.and_eq_true] at hchk; exact hcall ps nb _ hchk.2 hp) | (cases hev; done) | split at hev)
  | othOB ps k nb v out =>
    simp only [evCore] at hev
    repeat' (first | (injection hev with hev; injection hev with h1 h2; subst h2; rename_i hchk; simp only [Bool.and_eq_true] at hchk; exact hcall ps nb _ hchk.2 hp) | (cases hev; done) | split at hev)
  | oth ps k nb v out =>
    simp only [evCore] at hev
    repeat' (first | (injection hev with hev; injection hev with h1 h2; subst h2; rename_i hchk; simp only [Bool.and_eq_true] at hchk; exact hcall ps nb _ hchk.2 hp) | (cases hev; done) | split at hev)
  | othF ps k nb v out =>
    simp only [evCore] at hev
    repeat' (first | (injection hev with hev; injection hev with h1 h2; subst h2; rename_i hchk; simp only [Bool.and_eq_true] at hchk; exact hcall ps nb _ hchk.2 hp) | (cases hev; done) | split at hev)
  | othB ps k nb v out =>
    simp only [evCore] at hev
    repeat' (first | (injection hev with hev; injection hev with h1 h2; subst h2; rename_i hchk; simp only [Bool.and_eq_true] at hchk; exact hcall ps nb _ hchk.2 hp) | (cases hev; done) | split at hev)
  | pk => cases hev
  | run h => cases hev
  | skip => cases hev
  | opt h => cases hev
theorem evPlain_wrs {F : Blk → Prop} {P : Program} {o : Oper} {s : FSt} {nx : Nat} {ns : List Nat} {h : OpH} {vc : Prop} {e : Eff}
    (hev : evPlain F P o s nx ns h = some (vc, e)) : ∀ p, look e.upd p ≠ none → p ∈ h.wrs nx := by
  by_cases hpk : h = .pk
  · subst hpk
    intro p hp
    simp only [evPlain] at hev
    split at hev
    · injection hev with hev; injection hev with h1 h2; subst h2; exact absurd rfl hp
    · cases hev
  · have hP : ∀ s : FSt, evPlain F P o s nx ns h = match known s.env o.op.operands.toList with
      | true => match evCore F P o (rho s.env) s.mem nx ns h with
        | some (vc, e) => some (conds s.env o.op.operands.toList ∧ vc, e)
        | none => none
      | false => none := fun s => by cases h <;> first | rfl | exact absurd rfl hpk
    rw [hP] at hev
    split at hev
    · split at hev
      · rename_i hc
        injection hev with hev; injection hev with h1 h2; subst h2
        exact evCore_wrs hc
      · cases hev
    · cases hev
theorem evOp_wrs {F : Blk → Prop} {P : Program} {ops : Array Oper} {o : Oper} {s : FSt} {nx : Nat} {ns : List Nat} {h : OpH} {vc : Prop} {e : Got}
    (hev : evOp F P ops o s nx ns h = some (vc, e)) : ∀ p, look e.upd p ≠ none → p ∈ h.wrs nx := by
  unfold evOp at hev
  cases hg : o.guard with
  | none =>
    rw [hg] at hev
    simp only at hev
    split at hev
    · rename_i hp
      injection hev with hev; injection hev with h1 h2; subst h2
      exact evPlain_wrs hp
    · cases hev
  | some jw =>
    rw [hg] at hev
    simp only at hev
    split at hev
    · cases h with
      | skip =>
        simp only [evGuard] at hev
        injection hev with hev; injection hev with h1 h2; subst h2
        intro p hp; exact absurd rfl hp
      | run h =>
        simp only [evGuard] at hev
        split at hev
        · rename_i hp
          injection hev with hev; injection hev with h1 h2; subst h2
          exact fun p hpp => (evPlain_wrs (h := h) hp p hpp : p ∈ h.wrs nx)
        · cases hev
      | opt h =>
        simp only [evGuard] at hev
        split at hev
        · injection hev with hev; injection hev with h1 h2; subst h2
          intro p hp; exact absurd rfl hp
        · cases hev
      | _ => simp [evGuard] at hev
    · cases hev
end Go.Eng
end
section
namespace Go.Eng
def unl (l : Array Bool) : Nat := l.toList.count false
theorem count_set : ∀ (l : List Bool) (i : Nat), l[i]? = some false → (l.set i true).count false + 1 = l.count false
  | [], i, h => by simp at h
  | b :: r, 0, h => by simp at h; subst h; simp
  | b :: r, i + 1, h => by
    have := count_set r i (by simpa using h)
    simp only [List.set_cons_succ, List.count_cons]
    omega
theorem getD_false {l : Array Bool} {i : Nat} (h : l.getD i true = false) : l[i]? = some false := by
  cases hi : l[i]? with
  | none => simp [Array.getD_eq_getD_getElem?, hi] at h
  | some b => simp [Array.getD_eq_getD_getElem?, hi] at h; subst h; rfl
theorem unl_set {l : Array Bool} {i : Nat} (h : l.getD i true = false) : unl (l.setIfInBounds i true) + 1 = unl l := by
  unfold unl
  rw [Array.toList_setIfInBounds]
  exact count_set _ _ (by simpa using getD_false h)
theorem wpAny_inv {P : Program} {ops : Array Oper} {Q : Exit → Act → World → Prop} (Inv : Array Bool → Act → World → Prop)
    (h1 : ∀ l a w, Inv l a w → Region.ready .any ops l = [] → Q .normal a w)
    (h2 : ∀ l a w i, Inv l a w → i ∈ Region.ready .any ops l → wpOp P ops Q i (Inv (l.setIfInBounds i true)) a w) :
    ∀ (fuel : Nat) (l : Array Bool) (a : Act) (w : World), unl l ≤ fuel → Inv l a w → wpAny P .any ops Q fuel l a w
  | 0, l, a, w, hu, hi => by
    have : Region.ready .any ops l = [] := by
      cases hr : Region.ready .any ops l with
      | nil => rfl
      | cons j r =>
        have hj : j ∈ Region.ready .any ops l := by rw [hr]; simp
        have := unl_set (mem_ready.1 hj).1
        omega
    exact ⟨this, h1 l a w hi this⟩
  | n + 1, l, a, w, hu, hi => ⟨h1 l a w hi, fun i hr => wpOp_mono (fun a' w' h => wpAny_inv Inv h1 h2 n _ a' w' (by have := unl_set (mem_ready.1 hr).1; omega) h) (h2 l a w i hi hr)⟩
def maskOf (o : Oper) (acc : List (Nat × Nat)) : Nat := o.after.toList.foldl (fun m e => match Region.binds .any e with
  | true => m ||| 2 ^ e.on ||| (match look acc e.on with
    | some x => x
    | none => 0)
  | false => m) 0
def ancs (ops : Array Oper) : (List (Nat × OpH)) → List (Nat × Nat) → List (Nat × Nat)
  | [], acc => acc
  | (i, _) :: r, acc => match ops[i]? with
    | some o => ancs ops r ((i, maskOf o acc) :: acc)
    | none => acc
def before (masks : List (Nat × Nat)) (i j : Nat) : Bool := match look masks j with
  | some m => m.testBit i
  | none => false
def Preds (D : Nat → Bool) (o : Oper) : Prop := ∀ e ∈ o.after.toList, Region.binds .any e = true → D e.on = true
def Closed (ops : Array Oper) (D : Nat → Bool) : Prop := ∀ j o, ops[j]? = some o → D j = true → Preds D o
def MaskOk (ops : Array Oper) (masks : List (Nat × Nat)) : Prop :=
  ∀ D, Closed ops D → ∀ j o m, look masks j = some m → ops[j]? = some o → Preds D o → ∀ i, m.testBit i = true → D i = true
theorem fold_bit (acc : List (Nat × Nat)) (i : Nat) : ∀ (l : List Edge) (m0 : Nat), (l.foldl (fun m e => match Region.binds .any e with
      | true => m ||| 2 ^ e.on ||| (match look acc e.on with
        | some x => x
        | none => 0)
      | false => m) m0).testBit i = true →
    m0.testBit i = true ∨ ∃ e ∈ l, Region.binds .any e = true ∧ (i = e.on ∨ ∃ x, look acc e.on = some x ∧ x.testBit i = true)
  | [], m0, h => .inl h
  | e :: l, m0, h => by
    rw [List.foldl_cons] at h
    rcases fold_bit acc i l _ h with h | ⟨e', he', h⟩
    · cases hb : Region.binds .any e with
      | false => simp only [hb] at h; exact .inl h
      | true =>
        simp only [hb, Nat.testBit_or, Bool.or_eq_true] at h
        rcases h with (h | h) | h
        · exact .inl h
        · refine .inr ⟨e, by simp, hb, .inl ?_⟩
          rw [Nat.testBit_two_pow] at h
          have := of_decide_eq_true h
          exact this.symm
        · refine .inr ⟨e, by simp, hb, .inr ?_⟩
          cases hl : look acc e.on with
          | none => simp only [hl] at h; simp at h
          | some x => simp only [hl] at h; exact ⟨x, rfl, h⟩
    · exact .inr ⟨e', by simp [he'], h⟩
theorem maskOk_cons {ops : Array Oper} {acc : List (Nat × Nat)} (h : MaskOk ops acc) (hin : ∀ j m, look acc j = some m → ∃ o, ops[j]? = some o) {i : Nat} {o : Oper} (ho : ops[i]? = some o) :
    MaskOk ops ((i, maskOf o acc) :: acc) := by
  intro D hD j o' m hl ho' hp k hk
  rw [look_cons] at hl
  split at hl
  · rename_i hij
    subst hij
    injection hl with hl; subst hl
    rw [ho] at ho'; injection ho' with ho'; subst ho'
    rcases fold_bit acc k _ _ hk with h0 | ⟨e, he, hb, h1 | ⟨x, hx, hxk⟩⟩
    · simp at h0
    · rw [h1]; exact hp e he hb
    · obtain ⟨oe, hoe⟩ := hin _ _ hx
      exact h D hD e.on oe x hx hoe (hD _ _ hoe (hp e he hb)) k hxk
  · exact h D hD j o' m hl ho' hp k hk
theorem ancs_ok {ops : Array Oper} : ∀ (ks : (List (Nat × OpH))) (acc : List (Nat × Nat)), MaskOk ops acc → (∀ j m, look acc j = some m → ∃ o, ops[j]? = some o) → MaskOk ops (ancs ops ks acc)
  | [], acc, h, _ => h
  | (i, _) :: r, acc, h, hin => by
    simp only [ancs]
    split
    · rename_i o ho
      refine ancs_ok r _ (maskOk_cons h hin ho) (fun j m hl => ?_)
      rw [look_cons] at hl
      split at hl
      · rename_i hij; subst hij; exact ⟨o, ho⟩
      · exact hin j m hl
    · exact h
theorem maskOk_nil (ops : Array Oper) : MaskOk ops [] := fun D _ j o m h => by cases h
def annot : (List (Nat × OpH)) → Nat → List (Nat × OpH × Nat)
  | [], _ => []
  | (i, h) :: r, nx => (i, h, nx) :: annot r (nx + h.nb)
def indep (ops : Array Oper) (x y : (Nat × OpH × Nat)) : Bool := match ops[x.1]?, ops[y.1]? with
  | some ox, some oy => ox.apart ops oy && (x.2.1.wrs x.2.2).all (fun p => !(y.2.1.tch y.2.2).contains p) && (y.2.1.wrs y.2.2).all (fun p => !(x.2.1.tch x.2.2).contains p)
  | _, _ => false
def pairsOk (ops : Array Oper) (masks : List (Nat × Nat)) : List (Nat × OpH × Nat) → Bool
  | [] => true
  | x :: r => r.all (fun y => before masks x.1 y.1 || indep ops x y) && pairsOk ops masks r
def permOk (ops : Array Oper) : (List (Nat × OpH)) → List Nat → Bool
  | [], seen => (List.range ops.size).all (fun i => seen.contains i)
  | (i, _) :: r, seen => !seen.contains i && (match ops[i]? with
    | some o => o.after.toList.all (fun e => !Region.binds .any e || seen.contains e.on)
    | none => false) && permOk ops r (i :: seen)
def drawOk (ops : Array Oper) (ks : (List (Nat × OpH))) (nx : Nat) : Bool := permOk ops ks [] && pairsOk ops (ancs ops ks []) (annot ks nx)
theorem pairs_split {ops : Array Oper} {masks : List (Nat × Nat)} : ∀ (a : List (Nat × OpH × Nat)) (x : (Nat × OpH × Nat)) (b : List (Nat × OpH × Nat)), pairsOk ops masks (a ++ x :: b) = true →
    (∀ y ∈ a, before masks y.1 x.1 = true ∨ indep ops y x = true) ∧ (∀ y ∈ b, before masks x.1 y.1 = true ∨ indep ops x y = true)
  | [], x, b, h => by
    simp only [List.nil_append, pairsOk, Bool.and_eq_true, List.all_eq_true, Bool.or_eq_true] at h
    exact ⟨by simp, fun y hy => h.1 y hy⟩
  | y :: a, x, b, h => by
    simp only [List.cons_append, pairsOk, Bool.and_eq_true, List.all_eq_true, Bool.or_eq_true] at h
    obtain ⟨h1, h2⟩ := pairs_split a x b h.2
    refine ⟨fun z hz => ?_, h2⟩
    rcases List.mem_cons.1 hz with rfl | hz
    · exact h.1 x (by simp)
    · exact h1 z hz
theorem perm_nodup {ops : Array Oper} : ∀ (ks : (List (Nat × OpH))) (seen : List Nat), permOk ops ks seen = true → (ks.map (·.1)).Nodup ∧ ∀ i ∈ ks.map (·.1), i ∉ seen
  | [], seen, _ => ⟨List.nodup_nil, by simp⟩
  | (i, h) :: r, seen, hp => by
    simp only [permOk, Bool.and_eq_true, Bool.not_eq_true'] at hp
    obtain ⟨h1, h2⟩ := perm_nodup r (i :: seen) hp.2
    refine ⟨?_, ?_⟩
    · simp only [List.map_cons, List.nodup_cons]
      exact ⟨fun hi => h2 i hi (by simp), h1⟩
    · intro j hj
      simp only [List.map_cons, List.mem_cons] at hj
      rcases hj with rfl | hj
      · have := hp.1.1; simpa using this
      · exact fun hs => h2 j hj (by simp [hs])
theorem perm_cover {ops : Array Oper} : ∀ (ks : (List (Nat × OpH))) (seen : List Nat), permOk ops ks seen = true → ∀ i, i < ops.size → i ∈ ks.map (·.1) ∨ i ∈ seen
  | [], seen, hp, i, hi => by
    simp only [permOk, List.all_eq_true] at hp
    exact .inr (by simpa using hp i (List.mem_range.2 hi))
  | (j, h) :: r, seen, hp, i, hi => by
    simp only [permOk, Bool.and_eq_true] at hp
    rcases perm_cover r (j :: seen) hp.2 i hi with h1 | h1
    · exact .inl (by simp [h1])
    · rcases List.mem_cons.1 h1 with rfl | h1
      · exact .inl (by simp)
      · exact .inr h1
theorem perm_all {ops : Array Oper} {l : Array Bool} (hl : l.size = ops.size) (hr : Region.ready .any ops l = []) : ∀ (ks : (List (Nat × OpH))) (seen : List Nat), permOk ops ks seen = true →
    (∀ i ∈ seen, l.getD i false = true) → ∀ i ∈ ks.map (·.1), l.getD i false = true
  | [], _, _, _, i, hi => by simp at hi
  | (j, h) :: r, seen, hp, hs, i, hi => by
    simp only [permOk, Bool.and_eq_true] at hp
    have hj : l.getD j false = true := by
      cases ho : ops[j]? with
      | none => simp [ho] at hp
      | some o =>
        simp only [ho, List.all_eq_true] at hp
        by_cases hd : l.getD j true = false
        · have : j ∈ Region.ready .any ops l := mem_ready.2 ⟨hd, o, ho, fun e he hb => by
            have := hp.1.2 e (by simpa using he)
            simp only [hb, Bool.not_true, Bool.false_or] at this
            exact hs _ (by simpa using this)⟩
          rw [hr] at this; cases this
        · have hj : j < l.size := by rw [hl]; exact (Array.getElem?_eq_some_iff.1 ho).1
          simp [Array.getD, hj] at hd ⊢
          exact hd
    simp only [List.map_cons, List.mem_cons] at hi
    rcases hi with rfl | hi
    · exact hj
    · refine perm_all hl hr r (j :: seen) hp.2 (fun k hk => ?_) i hi
      rcases List.mem_cons.1 hk with rfl | hk
      · exact hj
      · exact hs k hk
structure T where
  i : Nat
  dst : Option Tmp
  e : Got
theorem apply_env (s : FSt) (dst : Option Tmp) (e : Got) (x : Nat) : (s.apply dst e).env x = if dst = some x then some e.val else s.env x := by
  cases dst with
  | none => simp [FSt.apply]
  | some d =>
    simp only [FSt.apply]
    by_cases h : d = x
    · subst h; simp
    · cases hb : Nat.beq d x with
      | true => exact absurd (Nat.eq_of_beq_eq_true hb) h
      | false => simp [h]
theorem apply_mem (s : FSt) (dst : Option Tmp) (e : Got) (p : Nat) : (s.apply dst e).mem p = match look e.upd p with
  | some ob => ob
  | none => s.mem p := rfl
def disj (t u : T) : Prop := (∀ x, t.dst = some x → u.dst ≠ some x) ∧ ∀ p, look t.e.upd p = none ∨ look u.e.upd p = none
theorem apply_comm {t u : T} (h : disj t u) (s : FSt) : (s.apply t.dst t.e).apply u.dst u.e = (s.apply u.dst u.e).apply t.dst t.e := by
  have he : ∀ x, ((s.apply t.dst t.e).apply u.dst u.e).env x = ((s.apply u.dst u.e).apply t.dst t.e).env x := fun x => by
    simp only [apply_env]
    by_cases h1 : t.dst = some x
    · simp [h1, h.1 x h1]
    · simp [h1]
  have hm : ∀ p, ((s.apply t.dst t.e).apply u.dst u.e).mem p = ((s.apply u.dst u.e).apply t.dst t.e).mem p := fun p => by
    simp only [apply_mem]
    rcases h.2 p with h1 | h1
    · simp [h1]
    · rw [h1]
  have ext : ∀ a b : FSt, (∀ x, a.env x = b.env x) → (∀ p, a.mem p = b.mem p) → a = b := fun a b h1 h2 => by
    cases a; cases b
    congr
    · funext x; exact h1 x
    · funext p; exact h2 p
  exact ext _ _ he hm
theorem annot_append : ∀ (a b : (List (Nat × OpH))) (nx : Nat), annot (a ++ b) nx = annot a nx ++ annot b (nx + nbL a)
  | [], b, nx => by simp [annot, nbL]
  | (i, h) :: a, b, nx => by simp only [List.cons_append, annot, annot_append a b, nbL, Nat.add_assoc]
theorem annot_idx : ∀ (ks : (List (Nat × OpH))) (nx : Nat), (annot ks nx).map (·.1) = ks.map (·.1)
  | [], _ => rfl
  | (i, h) :: r, nx => by simp only [annot, List.map_cons, annot_idx r]
end Go.Eng
end
section
namespace Go.Eng
variable {ds : Nat}
theorem Holds.drew {b : Blk} {w : World} (h : Holds b w) : Holds b w.drew := h.of_heap (Nat.le_refl _) fun _ _ => rfl
theorem Sat.drew {nt : Nat} {s : FSt} {a : Act} {w : World} (h : Sat ds nt s a w) : Sat ds nt s a w.drew := ⟨h.defers, h.size, h.env, fun p b hb => (h.mem p b hb).drew, h.apart⟩
theorem nnL_append : ∀ (a b : (List (Nat × OpH))), nnL (a ++ b) = nnL a + nnL b
  | [], b => by simp [nnL]
  | (i, h) :: a, b => by simp only [List.cons_append, nnL, nnL_append a b]; omega
theorem annot_ks : ∀ {ks : (List (Nat × OpH))} {nx : Nat} {y : (Nat × OpH × Nat)}, y ∈ annot ks nx → y.1 ∈ ks.map (·.1) := fun {ks nx y} h => by
  rw [← annot_idx ks nx]; exact List.mem_map.2 ⟨y, h, rfl⟩
theorem wrs_tch {h : OpH} {nx p : Nat} (hp : p ∈ h.wrs nx) : p ∈ h.tch nx := by
  unfold OpH.wrs at hp
  unfold OpH.tch
  rcases List.mem_append.1 hp with h1 | h1
  · obtain ⟨x, hx, hxp⟩ := List.mem_filterMap.1 h1
    refine List.mem_append_left _ (List.mem_map.2 ⟨x, hx, ?_⟩)
    split at hxp
    · cases hxp
    · injection hxp
  · exact List.mem_append_right _ h1
theorem indep_get {ops : Array Oper} {x y : (Nat × OpH × Nat)} {ox oy : Oper} (hx : ops[x.1]? = some ox) (hy : ops[y.1]? = some oy) (h : indep ops x y = true) :
    ox.apart ops oy = true ∧ (∀ p ∈ x.2.1.wrs x.2.2, p ∉ y.2.1.tch y.2.2) ∧ (∀ p ∈ y.2.1.wrs y.2.2, p ∉ x.2.1.tch x.2.2) := by
  simp only [indep, hx, hy, Bool.and_eq_true, List.all_eq_true] at h
  exact ⟨h.1.1, fun p hp => by simpa using h.1.2 p hp, fun p hp => by simpa using h.2 p hp⟩
def nnD (D : Nat → Bool) : List (Nat × OpH) → Nat
  | [] => 0
  | (i, h) :: r => match D i with
    | true => h.nn + nnD D r
    | false => nnD D r
def fill (D : Nat → Bool) : List (Nat × OpH) → List Nat → List Nat
  | [], _ => []
  | (i, h) :: r, ns => match D i with
    | true => ns.take h.nn ++ fill D r (ns.drop h.nn)
    | false => List.replicate h.nn 0 ++ fill D r ns
def evD (F : Blk → Prop) (P : Program) (ops : Array Oper) (D : Nat → Bool) : List (Nat × OpH) → List Nat → FSt → Nat → FSt
  | [], _, f, _ => f
  | (i, h) :: r, ns, f, nx => match D i with
    | false => evD F P ops D r ns f (nx + h.nb)
    | true => match ops[i]? with
      | some o => match evOp F P ops o f nx (ns.take h.nn) h with
        | some (_, e) => evD F P ops D r (ns.drop h.nn) (f.apply o.dst e) (nx + h.nb)
        | none => evD F P ops D r (ns.drop h.nn) f (nx + h.nb)
      | none => evD F P ops D r (ns.drop h.nn) f (nx + h.nb)
theorem nnD_congr {D D' : Nat → Bool} : ∀ {ks : List (Nat × OpH)}, (∀ x ∈ ks, D x.1 = D' x.1) → nnD D ks = nnD D' ks
  | [], _ => rfl
  | (i, h) :: r, hd => by simp only [nnD, ← hd (i, h) (by simp), nnD_congr (ks := r) fun x hx => hd x (by simp [hx])]
theorem evD_congr {F : Blk → Prop} {P : Program} {ops : Array Oper} {D D' : Nat → Bool} : ∀ {ks : List (Nat × OpH)} {ns : List Nat} {f : FSt} {nx : Nat}, (∀ x ∈ ks, D x.1 = D' x.1) → evD F P ops D ks ns f nx = evD F P ops D' ks ns f nx
  | [], _, _, _, _ => rfl
  | (i, h) :: r, ns, f, nx, hd => by
    have ih := fun ns f nx => evD_congr (F := F) (P := P) (ops := ops) (ks := r) (ns := ns) (f := f) (nx := nx) fun x hx => hd x (by simp [hx])
    simp only [evD, ← hd (i, h) (by simp), ih]
theorem nnD_append {D : Nat → Bool} : ∀ (a b : List (Nat × OpH)), nnD D (a ++ b) = nnD D a + nnD D b
  | [], b => by simp [nnD]
  | (i, h) :: a, b => by
    simp only [List.cons_append, nnD, nnD_append a b]
    cases D i <;> simp only <;> omega
theorem evD_append {F : Blk → Prop} {P : Program} {ops : Array Oper} {D : Nat → Bool} (post : List (Nat × OpH)) (n2 : List Nat) : ∀ (pre : List (Nat × OpH)) (n1 : List Nat) (f : FSt) (nx : Nat), n1.length = nnD D pre →
    evD F P ops D (pre ++ post) (n1 ++ n2) f nx = evD F P ops D post n2 (evD F P ops D pre n1 f nx) (nx + nbL pre)
  | [], n1, f, nx, hl => by
    have : n1 = [] := by simpa [nnD] using hl
    subst this; simp [evD, nbL]
  | (i, h) :: pre, n1, f, nx, hl => by
    simp only [List.cons_append, evD, nbL]
    simp only [nnD] at hl
    cases hD : D i with
    | false =>
      rw [hD] at hl; simp only at hl ⊢
      rw [evD_append post n2 pre n1 f _ hl, Nat.add_assoc]
    | true =>
      rw [hD] at hl; simp only at hl ⊢
      have hle : h.nn ≤ n1.length := by omega
      rw [List.take_append_of_le_length hle, List.drop_append_of_le_length hle]
      have hl2 : (n1.drop h.nn).length = nnD D pre := by simp; omega
      split
      · split
        · rw [evD_append post n2 pre _ _ _ hl2, Nat.add_assoc]
        · rw [evD_append post n2 pre _ _ _ hl2, Nat.add_assoc]
      · rw [evD_append post n2 pre _ _ _ hl2, Nat.add_assoc]
theorem fill_length {D : Nat → Bool} : ∀ (ks : List (Nat × OpH)) (ns : List Nat), ns.length = nnD D ks → (fill D ks ns).length = nnL ks
  | [], _, _ => rfl
  | (i, h) :: r, ns, hl => by
    simp only [nnD] at hl
    simp only [fill, nnL]
    cases hD : D i with
    | true =>
      rw [hD] at hl; simp only at hl ⊢
      rw [List.length_append, fill_length r _ (by simp; omega), List.length_take]; omega
    | false =>
      rw [hD] at hl; simp only at hl ⊢
      rw [List.length_append, fill_length r _ hl, List.length_replicate]
theorem fill_full {D : Nat → Bool} : ∀ (ks : List (Nat × OpH)) (ns : List Nat), (∀ x ∈ ks, D x.1 = true) → ns.length = nnD D ks → fill D ks ns = ns ∧ ns.length = nnL ks
  | [], ns, _, hl => by
    have : ns = [] := by simpa [nnD] using hl
    subst this; exact ⟨rfl, rfl⟩
  | (i, h) :: r, ns, hd, hl => by
    have hi := hd (i, h) (by simp)
    simp only at hi
    simp only [nnD, hi] at hl
    simp only [fill, hi, nnL]
    obtain ⟨h1, h2⟩ := fill_full r (ns.drop h.nn) (fun x hx => hd x (by simp [hx])) (by simp; omega)
    rw [h1, List.take_append_drop]
    exact ⟨rfl, by simp at h2; omega⟩
theorem FSt.ext' {a b : FSt} (h1 : ∀ x, a.env x = b.env x) (h2 : ∀ p, a.mem p = b.mem p) : a = b := by
  cases a; cases b
  congr
  · funext x; exact h1 x
  · funext p; exact h2 p
theorem evSeq_ok {F : Blk → Prop} {P : Program} {ops : Array Oper} {nt : Nat} : ∀ {ks : List (Nat × OpH)} {ns : List Nat} {s s' : St} {vc : Prop}, evSeq F P ops nt ks ns s = some (vc, s') → ∀ x ∈ ks, ∃ o, ops[x.1]? = some o ∧ opOk nt o = true
  | [], _, _, _, _, _, x, hx => by cases hx
  | (i, h) :: r, ns, s, s', vc, hev, x, hx => by
    obtain ⟨o, vc1, e, vc2, ho, hok, he, hr, _⟩ := evSeq_cons hev
    rcases List.mem_cons.1 hx with rfl | hx
    · exact ⟨o, ho, hok⟩
    · exact evSeq_ok hr x hx
theorem evSeq_cut {F : Blk → Prop} {P : Program} {ops : Array Oper} {nt : Nat} : ∀ (pre rest : (List (Nat × OpH))) (n1 n2 : List Nat) (s s' : St) (vc : Prop), n1.length = nnL pre →
    evSeq F P ops nt (pre ++ rest) (n1 ++ n2) s = some (vc, s') → vc →
    ∃ vc1 s1 vc2, evSeq F P ops nt pre n1 s = some (vc1, s1) ∧ vc1 ∧ evSeq F P ops nt rest n2 s1 = some (vc2, s') ∧ vc2 ∧ s1.nx = s.nx + nbL pre
  | [], rest, n1, n2, s, s', vc, hl, hev, hvc => by
    have : n1 = [] := by simpa [nnL] using hl
    subst this
    exact ⟨True, s, vc, rfl, trivial, hev, hvc, by simp [nbL]⟩
  | (i, h) :: pre, rest, n1, n2, s, s', vc, hl, hev, hvc => by
    simp only [nnL] at hl
    have hle : h.nn ≤ n1.length := by omega
    rw [List.cons_append] at hev
    obtain ⟨o, vc1, e, vc2, ho, hok, he, hr, rfl⟩ := evSeq_cons hev
    rw [List.take_append_of_le_length hle] at he
    rw [List.drop_append_of_le_length hle] at hr
    obtain ⟨vc3, s1, vc4, g1, g2, g3, g4, g5⟩ := evSeq_cut pre rest (n1.drop h.nn) n2 _ s' vc2 (by simp; omega) hr hvc.2
    refine ⟨vc1 ∧ vc3, s1, vc4, evSeq_mk ho hok he g1, ⟨hvc.1, g2⟩, g3, g4, ?_⟩
    rw [g5]; simp only [St.apply, nbL]; omega
def Rel (ops : Array Oper) (X : List (Nat × OpH × Nat)) (A B : FSt) : Prop :=
  (∀ t, (∀ u ∈ X, ∀ o, ops[u.1]? = some o → o.dst ≠ some t) → A.env t = B.env t) ∧ (∀ p, (∀ u ∈ X, p ∉ u.2.1.wrs u.2.2) → A.mem p = B.mem p)
theorem ps_tch {h : OpH} {nx p : Nat} {ro : Bool} (hp : (p, ro) ∈ h.ps) : p ∈ h.tch nx := by
  unfold OpH.tch; exact List.mem_append_left _ (List.mem_map.2 ⟨(p, ro), hp, rfl⟩)
theorem Rel.evOp {F : Blk → Prop} {P : Program} {ops : Array Oper} {X : List (Nat × OpH × Nat)} {A B : FSt} (hR : Rel ops X A B) (hXo : ∀ u ∈ X, ∃ o, ops[u.1]? = some o) {i nx : Nat} {h : OpH} {o : Oper} {ns : List Nat} (ho : ops[i]? = some o)
    (hsel : ∀ cs b, o.op ≠ .select cs b) (hX : ∀ u ∈ X, indep ops u (i, h, nx) = true) : Eng.evOp F P ops o A nx ns h = Eng.evOp F P ops o B nx ns h := by
  refine evOp_congr hsel (fun t ht => hR.1 t fun u hu ou hou hd => ?_) (fun p ro hp => hR.2 p fun u hu hw => ?_)
  · obtain ⟨k, _, _⟩ := indep_get hou ho (hX u hu)
    exact (Oper.apart_spec k).1 t hd ht
  · obtain ⟨ou, hou⟩ := hXo u hu
    obtain ⟨_, k, _⟩ := indep_get hou ho (hX u hu)
    exact k p hw (ps_tch hp)
theorem Rel.apply {ops : Array Oper} {X : List (Nat × OpH × Nat)} {A B : FSt} (hR : Rel ops X A B) (dst : Option Tmp) (e : Got) : Rel ops X (A.apply dst e) (B.apply dst e) := by
  refine ⟨fun t ht => ?_, fun p hp => ?_⟩
  · simp only [apply_env]; rw [hR.1 t ht]
  · simp only [apply_mem]; rw [hR.2 p hp]
theorem Rel.more {ops : Array Oper} {X : List (Nat × OpH × Nat)} {A B : FSt} (hR : Rel ops X A B) {i nx : Nat} {h : OpH} {o : Oper} {e : Got} (ho : ops[i]? = some o)
    (hw : ∀ p, look e.upd p ≠ none → p ∈ h.wrs nx) : Rel ops (X ++ [(i, h, nx)]) (A.apply o.dst e) B := by
  refine ⟨fun t ht => ?_, fun p hp => ?_⟩
  · have h1 := ht (i, h, nx) (by simp) o ho
    rw [apply_env, if_neg h1]
    exact hR.1 t fun u hu => ht u (by simp [hu])
  · have h1 := hp (i, h, nx) (by simp)
    rw [apply_mem]
    cases hl : look e.upd p with
    | some ob => exact absurd (hw p (by rw [hl]; simp)) h1
    | none => exact hR.2 p fun u hu => hp u (by simp [hu])
def PairD (ops : Array Oper) (D : Nat → Bool) : List (Nat × OpH × Nat) → Prop
  | [] => True
  | x :: r => (D x.1 = false → ∀ y ∈ r, D y.1 = true → indep ops x y = true) ∧ PairD ops D r
theorem sim {F : Blk → Prop} {P : Program} {ops : Array Oper} {nt : Nat} {D : Nat → Bool} : ∀ (ks : List (Nat × OpH)) (X : List (Nat × OpH × Nat)) (ns : List Nat) (s : St) (f : FSt) (s' : St) (vc : Prop), Rel ops X s.fs f →
    (∀ u ∈ X, ∃ o, ops[u.1]? = some o) → (∀ u ∈ X, ∀ y ∈ annot ks s.nx, D y.1 = true → indep ops u y = true) → PairD ops D (annot ks s.nx) → ns.length = nnD D ks → evSeq F P ops nt ks (fill D ks ns) s = some (vc, s') →
    Rel ops (X ++ (annot ks s.nx).filter fun u => !D u.1) s'.fs (evD F P ops D ks ns f s.nx)
  | [], X, ns, s, f, s', vc, hR, _, _, _, _, hev => by
    simp only [evSeq] at hev
    injection hev with hev; injection hev with _ h2; subst h2
    simpa [annot, evD] using hR
  | (i, h) :: ks, X, ns, s, f, s', vc, hR, hXo, hX, hP, hl, hev => by
    obtain ⟨o, vc1, e, vc2, ho, hok, he, hr, _⟩ := evSeq_cons hev
    simp only [nnD] at hl
    have hnx : (s.apply o.dst e h.nb).nx = s.nx + h.nb := rfl
    cases hD : D i with
    | true =>
      rw [hD] at hl; simp only at hl
      simp only [fill, hD] at he hr
      have hlt : (ns.take h.nn).length = h.nn := by rw [List.length_take]; omega
      rw [List.take_left' hlt] at he
      rw [List.drop_left' hlt] at hr
      have hc := hR.evOp (F := F) (P := P) (ns := ns.take h.nn) hXo ho (opOk_sel hok) (fun u hu => hX u hu (i, h, s.nx) (by simp [annot]) hD)
      rw [he] at hc
      have ih := sim ks X (ns.drop h.nn) (s.apply o.dst e h.nb) (f.apply o.dst e) s' vc2 (by rw [St.fs_apply]; exact hR.apply o.dst e) hXo
        (fun u hu y hy => hX u hu y (by simp only [annot, List.mem_cons]; exact .inr hy)) hP.2 (by simp; omega) hr
      simp only [evD, hD, ho, ← hc]
      rw [hnx] at ih
      simpa [annot, hD] using ih
    | false =>
      rw [hD] at hl; simp only at hl
      simp only [fill, hD] at he hr
      rw [List.take_left' List.length_replicate] at he
      rw [List.drop_left' List.length_replicate] at hr
      have ih := sim ks (X ++ [(i, h, s.nx)]) ns (s.apply o.dst e h.nb) f s' vc2 (by rw [St.fs_apply]; exact hR.more ho (evOp_wrs he))
        (fun u hu => by
          rcases List.mem_append.1 hu with hu | hu
          · exact hXo u hu
          · have : u = (i, h, s.nx) := by simpa using hu
            subst this; exact ⟨o, ho⟩)
        (fun u hu y hy hDy => by
          rcases List.mem_append.1 hu with hu | hu
          · exact hX u hu y (by simp only [annot, List.mem_cons]; exact .inr hy) hDy
          · have : u = (i, h, s.nx) := by simpa using hu
            subst this; exact hP.1 hD y hy hDy) hP.2 hl hr
      simp only [evD, hD]
      rw [hnx] at ih
      simpa [annot, hD] using ih
theorem evD_comm {F : Blk → Prop} {P : Program} {ops : Array Oper} {D : Nat → Bool} {i nxi : Nat} {h : OpH} {o : Oper} {e : Got} (ho : ops[i]? = some o) (hw : ∀ p, look e.upd p ≠ none → p ∈ h.wrs nxi) :
    ∀ (post : List (Nat × OpH)) (ns : List Nat) (f : FSt) (nx : Nat), (∀ y ∈ annot post nx, D y.1 = true → indep ops (i, h, nxi) y = true) → (∀ y ∈ post, ∀ oy, ops[y.1]? = some oy → ∀ cs b, oy.op ≠ .select cs b) →
      evD F P ops D post ns (f.apply o.dst e) nx = (evD F P ops D post ns f nx).apply o.dst e
  | [], _, _, _, _, _ => rfl
  | (j, gh) :: post, ns, f, nx, hI, hS => by
    have ih := fun ns f => evD_comm (F := F) (P := P) ho hw post ns f (nx + gh.nb) (fun y hy => hI y (by simp only [annot, List.mem_cons]; exact .inr hy)) (fun y hy => hS y (by simp [hy]))
    simp only [evD]
    cases hD : D j with
    | false => exact ih ns f
    | true =>
      simp only
      cases hoj : ops[j]? with
      | none => exact ih _ f
      | some oj =>
        simp only
        have hind := hI (j, gh, nx) (by simp [annot]) hD
        obtain ⟨k1, k2, k3⟩ := indep_get ho hoj hind
        have hc : evOp F P ops oj (f.apply o.dst e) nx (ns.take gh.nn) gh = evOp F P ops oj f nx (ns.take gh.nn) gh := by
          refine evOp_congr (hS (j, gh) (by simp) oj hoj) (fun t ht => ?_) (fun p ro hp => ?_)
          · rw [apply_env, if_neg]
            exact fun hd => (Oper.apart_spec k1).1 t hd ht
          · rw [apply_mem]
            cases hl : look e.upd p with
            | none => rfl
            | some ob => exact absurd (ps_tch hp) (k2 p (hw p (by rw [hl]; simp)))
        rw [hc]
        cases hev : evOp F P ops oj f nx (ns.take gh.nn) gh with
        | none => exact ih _ f
        | some ve =>
          obtain ⟨vcj, ej⟩ := ve
          simp only
          rw [apply_comm (t := ⟨i, o.dst, e⟩) (u := ⟨j, oj.dst, ej⟩) ⟨fun x hx hx' => (Oper.apart_spec k1).2.1 x hx hx', fun p => ?_⟩ f]
          · exact ih _ _
          · by_cases h1 : look e.upd p = none
            · exact .inl h1
            · by_cases h2 : look ej.upd p = none
              · exact .inr h2
              · exact absurd (wrs_tch (evOp_wrs hev p h2)) (k2 p (hw p h1))
theorem evD_skip {F : Blk → Prop} {P : Program} {ops : Array Oper} {D : Nat → Bool} {i nxi : Nat} {h : OpH} {o : Oper} (ho : ops[i]? = some o) :
    ∀ (post : List (Nat × OpH)) (ns : List Nat) (f : FSt) (nx : Nat), (∀ y ∈ annot post nx, D y.1 = true → indep ops (i, h, nxi) y = true) →
      (∀ t ∈ o.looksAt ops, (evD F P ops D post ns f nx).env t = f.env t) ∧ (∀ p ∈ h.tch nxi, (evD F P ops D post ns f nx).mem p = f.mem p)
  | [], _, _, _, _ => ⟨fun _ _ => rfl, fun _ _ => rfl⟩
  | (j, gh) :: post, ns, f, nx, hI => by
    have ih := fun ns f => evD_skip (F := F) (P := P) ho post ns f (nx + gh.nb) (fun y hy => hI y (by simp only [annot, List.mem_cons]; exact .inr hy))
    simp only [evD]
    cases hD : D j with
    | false => exact ih ns f
    | true =>
      simp only
      cases hoj : ops[j]? with
      | none => exact ih _ f
      | some oj =>
        simp only
        have hind := hI (j, gh, nx) (by simp [annot]) hD
        obtain ⟨k1, k2, k3⟩ := indep_get ho hoj hind
        cases hev : evOp F P ops oj f nx (ns.take gh.nn) gh with
        | none => exact ih _ f
        | some ve =>
          obtain ⟨vcj, ej⟩ := ve
          simp only
          obtain ⟨h1, h2⟩ := ih (ns.drop gh.nn) (f.apply oj.dst ej)
          refine ⟨fun t ht => ?_, fun p hp => ?_⟩
          · rw [h1 t ht, apply_env, if_neg]
            exact fun hd => (Oper.apart_spec k1).2.2 t hd ht
          · rw [h2 p hp, apply_mem]
            cases hl : look ej.upd p with
            | none => rfl
            | some ob => exact absurd hp (k3 p (evOp_wrs hev p (by rw [hl]; simp)))
theorem pairD_of {ops : Array Oper} {D : Nat → Bool} {masks : List (Nat × Nat)} (hb : ∀ (x y : Nat × OpH × Nat), D y.1 = true → before masks x.1 y.1 = true → D x.1 = true) : ∀ {l : List (Nat × OpH × Nat)}, pairsOk ops masks l = true → PairD ops D l
  | [], _ => trivial
  | x :: r, h => by
    simp only [pairsOk, Bool.and_eq_true, List.all_eq_true, Bool.or_eq_true] at h
    refine ⟨fun hx y hy hDy => ?_, pairD_of hb h.2⟩
    rcases h.1 y hy with h1 | h1
    · rw [hb x y hDy h1] at hx; cases hx
    · exact h1
theorem draw_any {F : Blk → Prop} {P : Program} {ops : Array Oper} {nt : Nat} {Q : Exit → Act → World → Prop} {ks : (List (Nat × OpH))} {s0 : St} {a : Act} {w : World}
    (hok : drawOk ops ks s0.nx = true) (hs : Sat ds nt s0.fs a w) (hF : Fam F s0.fs.mem w)
    (hall : ∀ ns, ns.length = nnL ks → ∃ vc s', evSeq F P ops nt ks ns s0 = some (vc, s') ∧ vc)
    (hK : ∀ ns vc s' a' w', ns.length = nnL ks → evSeq F P ops nt ks ns s0 = some (vc, s') → vc → Sat ds nt s'.fs a' w' → Adv s0.fs.mem w s'.fs.mem w' → Q .normal a' w') :
    wpAny P .any ops Q ops.size (Array.replicate ops.size false) a { w with drawn := w.drawn + 1 } := by
  simp only [drawOk, Bool.and_eq_true] at hok
  obtain ⟨hperm, hpairs⟩ := hok
  obtain ⟨hnodup, _⟩ := perm_nodup ks [] hperm
  have hM : MaskOk ops (ancs ops ks []) := ancs_ok ks [] (maskOk_nil ops) (fun j m h => by cases h)
  obtain ⟨_, _, hev00, _⟩ := hall (List.replicate _ 0) List.length_replicate
  have hopsOk := evSeq_ok hev00
  have hbef : ∀ D : Nat → Bool, Closed ops D → ∀ j k : Nat, D k = true → before (ancs ops ks []) j k = true → D j = true := fun D hcl j k hk hb => by
    unfold before at hb
    cases hl : look (ancs ops ks []) k with
    | none => rw [hl] at hb; cases hb
    | some m =>
      rw [hl] at hb
      have hko : ∃ ok, ops[k]? = some ok := by
        cases hx : ops[k]? with
        | some ok => exact ⟨ok, rfl⟩
        | none =>
          exfalso
          have : ∀ (l : List (Nat × OpH)) (acc : List (Nat × Nat)), (∀ j m, look acc j = some m → ∃ o, ops[j]? = some o) → ∀ m, look (ancs ops l acc) k = some m → False := by
            intro l
            induction l with
            | nil => intro acc hacc m hm; obtain ⟨o, ho⟩ := hacc k m hm; rw [hx] at ho; cases ho
            | cons x r ih =>
              intro acc hacc m hm
              obtain ⟨xi, xh⟩ := x
              simp only [ancs] at hm
              cases hox : ops[xi]? with
              | none => rw [hox] at hm; obtain ⟨o, ho⟩ := hacc k m hm; rw [hx] at ho; cases ho
              | some o =>
                rw [hox] at hm
                refine ih _ (fun j m' hj => ?_) m hm
                rw [look_cons] at hj
                split at hj
                · rename_i e; subst e; exact ⟨o, hox⟩
                · exact hacc j m' hj
          exact this ks [] (fun j m hj => by cases hj) m hl
      obtain ⟨ok, hok⟩ := hko
      exact hM D hcl k ok m hl hok (hcl k ok hok hk) j hb
  refine wpAny_inv (Inv := fun l a' w' => l.size = ops.size ∧ Closed ops (fun j => l.getD j false) ∧
    ∃ ns, ns.length = nnD (fun j => l.getD j false) ks ∧ Sat ds nt (evD F P ops (fun j => l.getD j false) ks ns s0.fs s0.nx) a' w' ∧
      Adv s0.fs.mem w (evD F P ops (fun j => l.getD j false) ks ns s0.fs s0.nx).mem w') ?_ ?_ _ _ _ _ ?_ ?_
  ·
    rintro l a' w' ⟨hsz, hcl, ns, hgn, hsat, hadv⟩ hr
    have hD : ∀ x ∈ ks, l.getD x.1 false = true := fun x hx => perm_all hsz hr ks [] hperm (by simp) x.1 (List.mem_map.2 ⟨x, hx, rfl⟩)
    obtain ⟨hfull, hlen⟩ := fill_full (D := fun j => l.getD j false) ks ns hD hgn
    obtain ⟨vc, s', hev, hvc⟩ := hall ns hlen
    have hsim := sim (F := F) (P := P) (nt := nt) (D := fun j => l.getD j false) ks [] ns s0 s0.fs s' vc ⟨fun _ _ => rfl, fun _ _ => rfl⟩ (by simp) (by simp)
      (pairD_of (masks := ancs ops ks []) (fun x y hy hb => hbef _ hcl x.1 y.1 hy hb) hpairs) hgn (by rw [hfull]; exact hev)
    have hnone : ((annot ks s0.nx).filter fun u => !l.getD u.1 false) = [] := by
      refine List.filter_eq_nil_iff.2 fun u hu => ?_
      obtain ⟨x, hx, hxi⟩ := List.mem_map.1 (annot_ks hu)
      have := hD x hx
      rw [hxi] at this
      simp [this]
    rw [hnone] at hsim
    have heq : s'.fs = evD F P ops (fun j => l.getD j false) ks ns s0.fs s0.nx := FSt.ext' (fun t => hsim.1 t (by simp)) (fun p => hsim.2 p (by simp))
    rw [← heq] at hsat hadv
    exact hK ns vc s' a' w' hlen hev hvc hsat hadv
  ·
    rintro l a' w' i ⟨hsz, hcl, ns, hgn, hsat, hadv⟩ hr
    obtain ⟨hun, o, ho, hpr⟩ := mem_ready.1 hr
    have hil : i < l.size := by rw [hsz]; exact (Array.getElem?_eq_some_iff.1 ho).1
    have hDi : l.getD i false = false := by
      have := getD_false hun
      simp [Array.getD_eq_getD_getElem?, this]
    generalize hDdef : (fun j => l.getD j false) = D at hcl hgn hsat hadv
    have hDi' : D i = false := by rw [← hDdef]; exact hDi
    have hP : Preds D o := fun e he hb => by rw [← hDdef]; exact hpr e (by simpa using he) hb
    obtain ⟨x, hx, hxi⟩ : ∃ x ∈ ks, x.1 = i := by
      rcases perm_cover ks [] hperm i (Array.getElem?_eq_some_iff.1 ho).1 with h1 | h1
      · obtain ⟨x, hx, hxi⟩ := List.mem_map.1 h1; exact ⟨x, hx, hxi⟩
      · cases h1
    obtain ⟨pre, post, hks⟩ := List.append_of_mem hx
    obtain ⟨xi, h⟩ := x
    simp only at hxi
    have hxi' := hxi.symm
    subst hxi'
    clear hxi
    have hipre : ∀ y ∈ pre, y.1 ≠ i := fun y hy e => by
      rw [hks] at hnodup
      simp only [List.map_append, List.map_cons] at hnodup
      exact (List.nodup_append.1 hnodup).2.2 y.1 (List.mem_map.2 ⟨y, hy, rfl⟩) i (by simp) e
    have hipost : ∀ y ∈ post, y.1 ≠ i := fun y hy e => by
      rw [hks] at hnodup
      simp only [List.map_append, List.map_cons] at hnodup
      have := (List.nodup_append.1 hnodup).2.1
      simp only [List.nodup_cons] at this
      exact this.1 (List.mem_map.2 ⟨y, hy, e⟩)
    have hps := hpairs
    rw [hks, annot_append] at hps
    simp only [annot] at hps
    obtain ⟨hR1, hR2⟩ := pairs_split _ _ _ hps
    rw [← hks] at hR1 hR2
    simp only at hR1 hR2
    have hbefi : ∀ j, before (ancs ops ks []) j i = true → D j = true := fun j hb => by
      unfold before at hb
      cases hl : look (ancs ops ks []) i with
      | none => rw [hl] at hb; cases hb
      | some m => rw [hl] at hb; exact hM D hcl i o m hl ho hP j hb
    have hIpost : ∀ y ∈ annot post (s0.nx + nbL pre + h.nb), D y.1 = true → indep ops (i, h, s0.nx + nbL pre) y = true := fun y hy hDy => by
      rcases hR2 y hy with h1 | h1
      · rw [hbef D hcl i y.1 hDy h1] at hDi'; cases hDi'
      · exact h1
    have hIpre : ∀ u ∈ (annot pre s0.nx).filter (fun u => !D u.1), indep ops u (i, h, s0.nx + nbL pre) = true := fun u hu => by
      obtain ⟨hu1, hu2⟩ := List.mem_filter.1 hu
      rcases hR1 u hu1 with h1 | h1
      · rw [hbefi u.1 h1] at hu2; cases hu2
      · exact h1
    rw [hks] at hgn hsat hadv
    have hnd : nnD D (pre ++ (i, h) :: post) = nnD D pre + nnD D post := by
      rw [nnD_append]; simp only [nnD, hDi']
    rw [hnd] at hgn
    obtain ⟨n1, n2, rfl, hn1, hn2⟩ : ∃ n1 n2, ns = n1 ++ n2 ∧ n1.length = nnD D pre ∧ n2.length = nnD D post :=
      ⟨ns.take (nnD D pre), ns.drop (nnD D pre), (List.take_append_drop _ _).symm, by rw [List.length_take]; omega, by rw [List.length_drop]; omega⟩
    rw [evD_append _ _ pre n1 _ _ hn1] at hsat hadv
    simp only [evD, hDi'] at hsat hadv
    have hlenks : nnL ks = nnL pre + (h.nn + nnL post) := by rw [hks, nnL_append]; rfl
    have hfl := fill_length pre n1 hn1
    have hop : ∀ nsi, nsi.length = h.nn → ∃ (s1 : St) (vc : Prop) (e : Got), s1.nx = s0.nx + nbL pre ∧ Rel ops ((annot pre s0.nx).filter fun u => !D u.1) s1.fs (evD F P ops D pre n1 s0.fs s0.nx) ∧ opOk nt o = true ∧ evOp F P ops o s1.fs s1.nx nsi h = some (vc, e) ∧ vc := fun nsi hnsi => by
      obtain ⟨vc3, s3, hev3, hvc3⟩ := hall (fill D pre n1 ++ (nsi ++ List.replicate (nnL post) 0)) (by simp [hlenks, hfl, hnsi])
      rw [hks] at hev3
      obtain ⟨vc4, s4, vc5, k1, k2, k3, k4, k5⟩ := evSeq_cut pre ((i, h) :: post) _ _ s0 s3 vc3 hfl hev3 hvc3
      obtain ⟨o', vc6, e, vc7, ho', hok', he, _, rfl⟩ := evSeq_cons k3
      rw [ho] at ho'; injection ho' with ho'; subst ho'
      rw [List.take_left' hnsi] at he
      have hpp : PairD ops D (annot pre s0.nx) := by
        have := pairD_of (D := D) (masks := ancs ops ks []) (fun x y hy hb => hbef _ hcl x.1 y.1 hy hb) hpairs
        rw [hks, annot_append] at this
        have cut : ∀ (a b : List (Nat × OpH × Nat)), PairD ops D (a ++ b) → PairD ops D a := by
          intro a
          induction a with
          | nil => intro b _; trivial
          | cons x r ih => intro b hb; exact ⟨fun hx y hy => hb.1 hx y (by simp [hy]), ih b hb.2⟩
        exact cut _ _ this
      have hsim := sim (F := F) (P := P) (nt := nt) (D := D) pre [] n1 s0 s0.fs s4 vc4 ⟨fun _ _ => rfl, fun _ _ => rfl⟩ (by simp) (by simp) hpp hn1 k1
      exact ⟨s4, vc6, e, k5, by simpa using hsim, hok', he, k4.1⟩
    obtain ⟨s1, _, _, hs1nx, hs1R, hokop, _, _⟩ := hop (List.replicate h.nn 0) List.length_replicate
    have hXo : ∀ u ∈ (annot pre s0.nx).filter (fun u => !D u.1), ∃ o, ops[u.1]? = some o := fun u hu => by
      obtain ⟨y, hy, hyu⟩ := List.mem_map.1 (annot_ks (List.mem_filter.1 hu).1)
      obtain ⟨oy, hoy, _⟩ := hopsOk y (by rw [hks]; simp [hy])
      exact ⟨oy, by rw [← hyu]; exact hoy⟩
    have hcong : ∀ (s1 : St) nsi, Rel ops ((annot pre s0.nx).filter fun u => !D u.1) s1.fs (evD F P ops D pre n1 s0.fs s0.nx) →
        evOp F P ops o s1.fs (s0.nx + nbL pre) nsi h = evOp F P ops o (evD F P ops D pre n1 s0.fs s0.nx) (s0.nx + nbL pre) nsi h := fun s1 nsi hR => hR.evOp hXo ho (opOk_sel hokop) hIpre
    have hcong2 : ∀ nsi, evOp F P ops o (evD F P ops D post n2 (evD F P ops D pre n1 s0.fs s0.nx) (s0.nx + nbL pre + h.nb)) (s0.nx + nbL pre) nsi h = evOp F P ops o (evD F P ops D pre n1 s0.fs s0.nx) (s0.nx + nbL pre) nsi h := fun nsi => by
      obtain ⟨k1, k2⟩ := evD_skip (F := F) (P := P) ho post n2 (evD F P ops D pre n1 s0.fs s0.nx) _ hIpost
      exact evOp_congr (opOk_sel hokop) k1 (fun p ro hp => k2 p (ps_tch hp))
    refine op_sound (nx := s0.nx + nbL pre) (h := h) ho hsat (hF.adv hadv) (opOk_sel hokop) (fun nsi hnsi => ?_) (fun nsi vc e w2 hnsi hev hvc hpost => ?_)
    · obtain ⟨s1, vc, e, hnx, hR, _, he, hvc⟩ := hop nsi hnsi
      rw [hnx, hcong s1 nsi hR] at he
      exact ⟨vc, e, by rw [hcong2]; exact he, hvc⟩
    · rw [hcong2] at hev
      have hsat2 := sat_apply hsat (opOk_dst hokop) hpost
      have hadv2 := hadv.trans hpost.adv
      have hD' : ∀ j, (l.setIfInBounds i true).getD j false = if i = j then true else D j := fun j => by
        by_cases hij : i = j
        · subst hij; simp [Array.getD_eq_getD_getElem?, hil]
        · rw [getD_set_ne false hij, if_neg hij, ← hDdef]
      have hD'pre : ∀ y ∈ pre, (l.setIfInBounds i true).getD y.1 false = D y.1 := fun y hy => by rw [hD', if_neg (fun e => hipre y hy e.symm)]
      have hD'post : ∀ y ∈ post, (l.setIfInBounds i true).getD y.1 false = D y.1 := fun y hy => by rw [hD', if_neg (fun e => hipost y hy e.symm)]
      have hD'i : (l.setIfInBounds i true).getD i false = true := by rw [hD', if_pos rfl]
      refine ⟨by simp [hsz], fun j oj hoj hj e he hb => ?_, n1 ++ (nsi ++ n2), ?_, ?_⟩
      · show (l.setIfInBounds i true).getD e.on false = true
        have hj : (l.setIfInBounds i true).getD j false = true := hj
        rw [hD']
        split
        · rfl
        · rw [hD'] at hj
          split at hj
          · rename_i hij
            subst hij
            rw [ho] at hoj; injection hoj with hoj; subst hoj
            exact hP e he hb
          · exact hcl j oj hoj hj e he hb
      · rw [hks, nnD_append, nnD_congr (D' := D) (ks := pre) hD'pre]
        simp only [nnD, hD'i]
        have e2 : nnD (fun j => (l.setIfInBounds i true).getD j false) post = nnD D post := nnD_congr hD'post
        rw [e2]
        simp [hn1, hn2, hnsi]
      · have heq : evD F P ops (fun j => (l.setIfInBounds i true).getD j false) ks (n1 ++ (nsi ++ n2)) s0.fs s0.nx =
            (evD F P ops D post n2 (evD F P ops D pre n1 s0.fs s0.nx) (s0.nx + nbL pre + h.nb)).apply o.dst e := by
          rw [hks, evD_append _ _ pre n1 _ _ (by rw [nnD_congr (D' := D) hD'pre]; exact hn1), evD_congr (D' := D) (ks := pre) hD'pre]
          simp only [evD, hD'i, ho]
          rw [List.take_left' hnsi, List.drop_left' hnsi, hev]
          simp only
          rw [evD_congr (D' := D) (ks := post) hD'post]
          refine evD_comm ho (evOp_wrs hev) post n2 _ _ hIpost fun y hy oy hoy => ?_
          obtain ⟨oy', hoy', hky⟩ := hopsOk y (by rw [hks]; simp [hy])
          rw [hoy] at hoy'; injection hoy' with hoy'; subst hoy'
          exact opOk_sel hky
        rw [heq]
        exact ⟨hsat2, hadv2⟩
  ·
    unfold unl
    simp
  ·
    have hD0 : ∀ j, (Array.replicate ops.size false).getD j false = false := fun j => by
      simp [Array.getD_eq_getD_getElem?, Array.getElem?_replicate]
      split <;> rfl
    have hnone : ∀ (l : List (Nat × OpH)) (f : FSt) (nx : Nat), evD F P ops (fun j => (Array.replicate ops.size false).getD j false) l [] f nx = f ∧ nnD (fun j => (Array.replicate ops.size false).getD j false) l = 0 := by
      intro l
      induction l with
      | nil => intro f nx; exact ⟨rfl, rfl⟩
      | cons x r ih =>
        intro f nx
        obtain ⟨j, gh⟩ := x
        obtain ⟨i1, i2⟩ := ih f (nx + gh.nb)
        have hj := hD0 j
        constructor
        · rw [evD]; simp only [hj]; exact i1
        · rw [nnD]; simp only [hj]; exact i2
    refine ⟨by simp, fun j o _ hj => ?_, [], (hnone ks s0.fs 0).2.symm, ?_⟩
    · have hj : (Array.replicate ops.size false).getD j false = true := hj
      rw [hD0] at hj; cases hj
    rw [(hnone ks s0.fs s0.nx).1]
    exact ⟨hs.drew, ⟨rfl, rfl, rfl, Nat.le_refl _, fun _ _ _ => rfl, fun _ h => .inl h, fun _ _ h _ => h⟩⟩
theorem draw_sound {F : Blk → Prop} {P : Program} {ops : Array Oper} {nt : Nat} {Q : Exit → Act → World → Prop} {ks : (List (Nat × OpH))} {s0 : St} {a : Act} {w : World} {id : Nat}
    (hmix : P.follows .mixedOrders = true) (hok : drawOk ops ks s0.nx = true) (hs : Sat ds nt s0.fs a w) (hF : Fam F s0.fs.mem w)
    (hall : ∀ ns, ns.length = nnL ks → ∃ vc s', evSeq F P ops nt ks ns s0 = some (vc, s') ∧ vc)
    (hK : ∀ ns vc s' a' w', ns.length = nnL ks → evSeq F P ops nt ks ns s0 = some (vc, s') → vc → Sat ds nt s'.fs a' w' → Adv s0.fs.mem w s'.fs.mem w' → Q .normal a' w') :
    (Code.region id ops true).wp P Q a w := wp_region_any hmix (draw_any hok hs hF hall hK)
end Go.Eng
end
