/-
  Mont: sync.Once, of one goroutine: what is done is done once.
-/
import Derived.Test.YtikfnopccneijaaMontFnsA
import Derived.Tactics
import Derived.Tactics2
import Derived.Defers
import Derived.Laws.Pointers
import Derived.Laws.LoneSync
import Derived.RegionTactic
import Derived.RegionCalls
import Derived.ChangeAlike
import Derived.Lib.Hide
namespace Go.Proofs.Ytikfnopccneijaa
open Go Go.Eng
set_option linter.unusedVariables false
set_option linter.unusedSimpArgs false
set_option maxRecDepth 100000

def onceC (m : N4) (d : UInt32) (l : Int) (lk on tw : N4) : List Value :=
  [u64 m.a, u64 m.b, u64 m.c, u64 m.d, u32 d, .int .i32 l, u32 0, u64 lk.a, u64 lk.b, u64 lk.c, u64 lk.d, u64 on.a, u64 on.b, u64 on.c, u64 on.d, u64 tw.a, u64 tw.b, u64 tw.c, u64 tw.d]
def Z4 : N4 := ⟨0, 0, 0, 0⟩

theorem disable (w : World) : (callFunc 92 #[]).run Try.prog w = .ok (.value (.tuple #[])) w := run_call_mark0 Try.func92 (by kernel_rfl) (by kernel_rfl) (by kernel_rfl) .disable (by kernel_rfl) w
theorem enable (w : World) : (callFunc 94 #[]).run Try.prog w = .ok (.value (.tuple #[])) w := run_call_mark0 Try.func94 (by kernel_rfl) (by kernel_rfl) (by kernel_rfl) .enable (by kernel_rfl) w
theorem acquire (a : Addr) (w : World) : (callFunc 95 #[.pointer (some a)]).run Try.prog w = .ok (.value (.tuple #[])) w := run_call_marked Try.func95 (by kernel_rfl) (by kernel_rfl) (by kernel_rfl) .acquire (by kernel_rfl) a w
theorem releaseMerge (a : Addr) (w : World) : (callFunc 97 #[.pointer (some a)]).run Try.prog w = .ok (.value (.tuple #[])) w := run_call_marked Try.func97 (by kernel_rfl) (by kernel_rfl) (by kernel_rfl) .releaseMerge (by kernel_rfl) a w

theorem store_deferred (a : Addr) (x : Value) (u : FrameMode) (w : World) (hc : w.cell? a = some x) (hz : w.frozen? a = false) :
    CallsD Try.prog 87 #[.pointer (some a), .bool true] u w fun e u' w' => u' = u ∧ (e = .returned (.tuple #[]) ∧ w' = w.drew.setCell a (.int .u32 1)) := by
  have hc' : w.drew.cell? a = some x := by go_simp
  have hz' : w.drew.frozen? a = false := by go_simp
  have hst := run_call_store (P := Try.prog) Try.func90 (by kernel_rfl) (by kernel_rfl) (by kernel_rfl) (by kernel_rfl) (k := .u32) (y := 1) hc' hz'
  go_enter_d Try.func87, Try.ntmps87
  go_wp2
  go_region_calls
  all_goals (go_end0; exact ⟨rfl, rfl⟩)

theorem unlock_deferred (a : Addr) (u : FrameMode) (w : World) (hc : w.cell? a = some (.int .i32 1)) (hz : w.frozen? a = false) :
    CallsD Try.prog 86 #[.pointer (some a)] u w fun e u' w' => u' = u ∧ (e = .returned (.tuple #[]) ∧ w' = w.setCell a (.int .i32 0)) := by
  have hd := disable
  have he := enable
  have hr := releaseMerge
  have hadd := run_call_add (P := Try.prog) Try.func98 (by kernel_rfl) (by kernel_rfl) (by kernel_rfl) .i32 (by kernel_rfl) (y := -1) (s := 0) hc hz (by simp [go_sem]; rfl)
  have hcv := run_convert_to_unsafe (P := Try.prog) (src := 135) (dst := 139) Try.underlying135 Try.underlying139 (by kernel_rfl) hc
  go_enter_d Try.func86, Try.ntmps86
  go_wp2
  go_end0
  go_wp2
  go_end0
  exact ⟨rfl, rfl⟩

theorem lock_free (a : Addr) (w : World) (hc : w.cell? a = some (.int .i32 0)) (hz : w.frozen? a = false) :
    Calls Try.prog 85 #[.pointer (some a)] w fun e w' => e = .returned (.tuple #[]) ∧ w' = w.setCell a (.int .i32 1) := by
  have hd := disable
  have he := enable
  have ha := acquire
  have hcas := run_call_cas_hit (P := Try.prog) Try.func93 (by kernel_rfl) (by kernel_rfl) (by kernel_rfl) .i32 (by kernel_rfl) (y := 1) hc hz
  have hc' : (w.setCell a (.int .i32 1)).cell? a = some (.int .i32 1) := World.cell?_setCell_same w a _ hc
  have hcv := run_convert_to_unsafe (P := Try.prog) (src := 135) (dst := 139) Try.underlying135 Try.underlying139 (by kernel_rfl) hc'
  go_enter Try.func85, Try.ntmps85
  go_wp2
  first | go_end0 | (simp only [Exit.inBlock, Exit.then]; refine bodyPost_ret (results_none rfl _ _ _) rfl ?_) | refine bodyPost_ret (results_none rfl _ _ _) rfl ?_
  go_wp2
  go_end0
  exact ⟨rfl, rfl⟩

abbrev modB (b : Nat) (m : N4) (d : UInt32) (l : Int) (lk on tw : N4) : Blk := ⟨b, true, 0, .lit (onceC m d l lk on tw)⟩
abbrev boxB (n b : Nat) : Blk := ⟨n, false, 0, .lit [ptr b 0]⟩

theorem two_holds {x y : Blk} {w : World} (hx : Holds x w) (hy : Holds y w) : ∀ c ∈ [x, y], Holds c w := fun c hc => by
  rcases List.mem_cons.1 hc with rfl | hc
  · exact hx
  · rcases List.mem_cons.1 hc with rfl | hc
    · exact hy
    · cases hc
theorem two_apart {b n : Nat} {c d : Cont} (h : b ≠ n) : Apart (listMem ([⟨b, true, 0, c⟩, ⟨n, false, 0, d⟩].map some)) := fun p q x y hpq hx hy ho => by
  rcases p with _ | _ | p
  · rcases q with _ | _ | q
    · exact absurd rfl hpq
    · injection hx with hx; injection hy with hy; subst hx; subst hy; exact h
    · simp [listMem] at hy
  · injection hx with hx; subst hx; cases ho
  · simp [listMem] at hx

set_option maxRecDepth 100000 in
set_option maxHeartbeats 1600000 in
theorem slow_any (b n : Nat) (hbn : b ≠ n) (m : N4) (hm : OddM m) (w : World) (hH : Holds (modB b m 0 0 Z4 Z4 Z4) w) (hB : Holds (boxB n b) w) :
    Calls Try.prog 81 #[.pointer (some ⟨b, 4, none⟩), .func (.func 70) #[] #[.pointer (some ⟨n, 0, none⟩)]] w fun e w' => e = .returned (.tuple #[]) ∧
      Post (listMem [some (modB b m 0 0 Z4 Z4 Z4), some (boxB n b)]) w (listMem [some (modB b m 1 0 (lackW m) (oneM m) (twoW m)), some (boxB n b)]) w' := by
  have h0 : w.cell? ⟨b, 4, none⟩ = some (.int .u32 0) := hH.cell 4 _ rfl
  have h1 : w.cell? ⟨b, 5, none⟩ = some (.int .i32 0) := hH.cell 5 _ rfl
  have f0 : w.frozen? ⟨b, 4, none⟩ = false := hH.free rfl 4 (u32 0) rfl
  have f1 : w.frozen? ⟨b, 5, none⟩ = false := hH.free rfl 5 (.int .i32 0) rfl
  have p1 := post_cell (n := b) (k := n) (o := 5) (v := .int .i32 1) (D := onceC m 0 0 Z4 Z4 Z4) (D' := onceC m 0 1 Z4 Z4 Z4) (S := [ptr b 0]) hH hB hbn rfl
  have hl := run_call_load (P := Try.prog) Try.func84 (by kernel_rfl) (by kernel_rfl) (by kernel_rfl) .u32 (by kernel_rfl) (w := w.setCell ⟨b, 5, none⟩ (.int .i32 1)) (a := ⟨b, 4, none⟩) (x := 0) ((World.cell?_setCell_other _ ⟨b, 5, none⟩ ⟨b, 4, none⟩ _ (by simp)).trans h0)
  have hnot : ∀ (x : Bool) (w : World), (Op.unary .not (.bool x)).run Try.prog w = .ok (.bool (!x)) w := fun _ _ => rfl
  have hcl := closure_runs b n m hm (w.setCell ⟨b, 5, none⟩ (.int .i32 1)) (two_holds (p1.holds 0 _ rfl) (p1.holds 1 _ rfl)) (two_apart hbn)
  have P1 := Lib.hid p1
  clear p1
  go_enter_defers Try.func81, Try.ntmps81
  go_wp2_with (first | (go_at_call 85; refine (lock_free ⟨b, 5, none⟩ _ (by go_simp) (by go_simp)).mono ?_; rintro e w' ⟨rfl, rfl⟩) | (go_at_call 80; go_in) | (go_at_call 70; refine Calls.mono hcl ?_; rintro e w2 ⟨ns, hns, rfl, hp2⟩; have P2 := Lib.hid hp2; clear hp2 hns hcl hl h0 h1 f0 f1))
  have hp2 : Post (listMem [some ⟨b, true, 0, .lit (onceC m 0 1 Z4 Z4 Z4)⟩, some (boxB n b)]) (w.setCell ⟨b, 5, none⟩ (.int .i32 1)) (listMem [some ⟨b, true, 0, .lit (onceC m 0 1 (lackW m) (oneM m) (twoW m))⟩, some (boxB n b)]) w2 := P2.out
  have H0 : Holds ⟨b, true, 0, .lit (onceC m 0 1 (lackW m) (oneM m) (twoW m))⟩ w2 := hp2.holds 0 _ rfl
  have p3 : Post (listMem [some ⟨b, true, 0, .lit (onceC m 0 1 (lackW m) (oneM m) (twoW m))⟩, some (boxB n b)]) w2 (listMem [some ⟨b, true, 0, .lit (onceC m 0 1 (lackW m) (oneM m) (twoW m))⟩, some (boxB n b)]) w2.drew := Post.drew hp2.holds hp2.apart
  have p4 := post_cell (n := b) (k := n) (o := 4) (v := .int .u32 1) (D := onceC m 0 1 (lackW m) (oneM m) (twoW m)) (D' := onceC m 1 1 (lackW m) (oneM m) (twoW m)) (S := [ptr b 0]) (p3.holds 0 _ rfl) (p3.holds 1 _ rfl) hbn rfl
  have p5 := post_cell (n := b) (k := n) (o := 5) (v := .int .i32 0) (D := onceC m 1 1 (lackW m) (oneM m) (twoW m)) (D' := onceC m 1 0 (lackW m) (oneM m) (twoW m)) (S := [ptr b 0]) (p4.holds 0 _ rfl) (p4.holds 1 _ rfl) hbn rfl
  have FIN := (P1.out.trans hp2).trans (p3.trans (p4.trans p5))
  have c1 : (w2.drew.setCell ⟨b, 4, none⟩ (.int .u32 1)).cell? ⟨b, 5, none⟩ = some (.int .i32 1) := (p4.holds 0 _ rfl).cell 5 _ rfl
  have z1 : (w2.drew.setCell ⟨b, 4, none⟩ (.int .u32 1)).frozen? ⟨b, 5, none⟩ = false := (p4.holds 0 _ rfl).free rfl 5 (.int .i32 1) rfl
  refine leaves_cons (f := 87) (args := #[.pointer (some ⟨b, 4, none⟩), .bool true]) (by simp) (by simp [go_sem]) ?_
  refine (store_deferred ⟨b, 4, none⟩ (.int .u32 0) .returning _ (H0.cell 4 _ rfl) (H0.free rfl 4 (u32 0) rfl)).mono ?_
  rintro e u' w'' ⟨rfl, rfl, rfl⟩
  refine leaves_cons (f := 86) (args := #[.pointer (some ⟨b, 5, none⟩)]) (by simp [settle]) (by simp [go_sem]) ?_
  refine (unlock_deferred ⟨b, 5, none⟩ _ _ c1 z1).mono ?_
  rintro e u' w'' ⟨rfl, rfl, rfl⟩
  simp [Leaves, settle, results, Try.results64]
  exact FIN

set_option maxRecDepth 100000 in
set_option maxHeartbeats 1600000 in
theorem do_first (b n : Nat) (hbn : b ≠ n) (m : N4) (hm : OddM m) (w : World) (hH : Holds (modB b m 0 0 Z4 Z4 Z4) w) (hB : Holds (boxB n b) w) :
    Calls Try.prog 69 #[.pointer (some ⟨b, 4, none⟩), .func (.func 70) #[] #[.pointer (some ⟨n, 0, none⟩)]] w fun e w' => e = .returned (.tuple #[]) ∧
      Post (listMem [some (modB b m 0 0 Z4 Z4 Z4), some (boxB n b)]) w (listMem [some (modB b m 1 0 (lackW m) (oneM m) (twoW m)), some (boxB n b)]) w' := by
  have h0 : w.cell? ⟨b, 4, none⟩ = some (.int .u32 0) := hH.cell 4 _ rfl
  have hl := run_call_load (P := Try.prog) Try.func84 (by kernel_rfl) (by kernel_rfl) (by kernel_rfl) .u32 (by kernel_rfl) h0
  have hnot : ∀ (x : Bool) (w : World), (Op.unary .not (.bool x)).run Try.prog w = .ok (.bool (!x)) w := fun _ _ => rfl
  have hs := Lib.hid (slow_any b n hbn m hm w hH hB)
  clear hH hB
  go_enter Try.func69, Try.ntmps69
  go_wp2_with (first | (go_at_call 81; refine hs.out.mono ?_; rintro e w2 ⟨rfl, hp⟩; have P2 := Lib.hid hp; clear hp hl h0) | (go_at_call 80; go_in))
  go_end0
  exact ⟨rfl, P2.out⟩

set_option maxRecDepth 100000 in
theorem do_done (a : Addr) (d : Int) (hd : ¬ d = 0) (fv : Value) (w : World) (h0 : w.cell? a = some (.int .u32 d)) :
    Calls Try.prog 69 #[.pointer (some a), fv] w fun e w' => e = .returned (.tuple #[]) ∧ w' = w := by
  have hl := run_call_load (P := Try.prog) Try.func84 (by kernel_rfl) (by kernel_rfl) (by kernel_rfl) .u32 (by kernel_rfl) h0
  have hnot : ∀ (x : Bool) (w : World), (Op.unary .not (.bool x)).run Try.prog w = .ok (.bool (!x)) w := fun _ _ => rfl
  have hd' : (d != 0) = true := by simp [hd]
  go_enter Try.func69, Try.ntmps69
  go_wp2
  go_end0
  exact ⟨rfl, rfl⟩

/-- What a Mod's cells are, made or not. -/
abbrev modS (b : Nat) (m : N4) (s : Bool) : Blk := ⟨b, true, 0, .lit [u64 m.a, u64 m.b, u64 m.c, u64 m.d, u32 (doneS s), .int .i32 0, u32 0, u64 (lackS m s).a, u64 (lackS m s).b, u64 (lackS m s).c, u64 (lackS m s).d,
  u64 (oneS m s).a, u64 (oneS m s).b, u64 (oneS m s).c, u64 (oneS m s).d, u64 (twoS m s).a, u64 (twoS m s).b, u64 (twoS m s).c, u64 (twoS m s).d]⟩
theorem once_do (b n : Nat) (m : N4) (s : Bool) (hm : OddM m) : Runs Try.prog 69 [ptr b 4, .func (.func 70) #[] #[ptr n 0]] [modS b m s, boxB n b] 0 (fun _ => .tuple #[]) (fun _ => [some (modS b m true), some (boxB n b)]) := by
  intro w hall ha
  have hH : Holds (modS b m s) w := hall _ (by simp)
  have hB : Holds (boxB n b) w := hall _ (by simp)
  have hbn : b ≠ n := ha 0 1 _ _ (by omega) rfl rfl rfl
  cases s with
  | false =>
    refine Calls.mono (do_first b n hbn m hm w hH hB) ?_
    rintro e w' ⟨rfl, hp⟩
    exact ⟨[], rfl, rfl, hp⟩
  | true =>
    refine Calls.mono (do_done ⟨b, 4, none⟩ 1 (by omega) _ w (hH.cell 4 _ rfl)) ?_
    rintro e w' ⟨rfl, rfl⟩
    exact ⟨[], rfl, rfl, .refl (fun p c hc => hall c (List.mem_of_getElem? (listMem_some.1 hc))) ha⟩
theorem once_ro (b n : Nat) (m : N4) (hm : OddM m) : Runs Try.prog 69 [ptr b 4, .func (.func 70) #[] #[ptr n 0]] [{ modS b m true with own := false }, boxB n b] 0 (fun _ => .tuple #[]) (fun _ => [some { modS b m true with own := false }, some (boxB n b)]) := by
  intro w hall ha
  have hH : Holds { modS b m true with own := false } w := hall _ (by simp)
  refine Calls.mono (do_done ⟨b, 4, none⟩ 1 (by omega) _ w (hH.cell 4 _ rfl)) ?_
  rintro e w' ⟨rfl, rfl⟩
  exact ⟨[], rfl, rfl, .refl (fun p c hc => hall c (List.mem_of_getElem? (listMem_some.1 hc))) ha⟩
end Go.Proofs.Ytikfnopccneijaa
