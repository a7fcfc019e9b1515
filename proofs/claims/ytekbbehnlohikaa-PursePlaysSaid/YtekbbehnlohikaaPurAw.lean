/-
  The chapter's examples.
-/
import Derived.Test.YtekbbehnlohikaaPurFns
namespace Go.Proofs.Ytekbbehnlohikaa
open Go Go.Eng
set_option linter.unusedVariables false
set_option linter.unusedSimpArgs false
set_option exponentiation.threshold 600
set_option maxRecDepth 100000

theorem new_3 (p : Nat) (x y z : UInt64) (hg : goodN 3 (urow3 x y z)) : Runs Try.prog 9 [.slice (some ⟨p, 0, none⟩) 3 3] [⟨p, false, 0, .lit [u64 x, u64 y, u64 z]⟩] 3
    (fun ns => Value.tuple #[ptr (ns.getD 0 0) 0, int 0]) (fun ns => [none, some ⟨ns.getD 0 0, true, 0, .lit [.slice (some ⟨ns.getD 1 0, 0, none⟩) 3 (3 + ns.getD 2 0)]⟩, some ⟨ns.getD 1 0, true, 0, tabF 3 fun k => u64 (urow3 x y z k)⟩]) :=
  (Runs.dark [true] (new_runs p 0 3 3 (urow3 x y z) (by decide) hg)).retell (bs' := [⟨p, false, 0, .lit [u64 x, u64 y, u64 z]⟩]) (fun w hw b hb => by
    simp only [List.mem_cons, List.not_mem_nil, or_false] at hb
    subst hb
    exact (hw ⟨p, false, 0, .lit [u64 x, u64 y, u64 z]⟩ (by simp)).recont urow3_get) rfl (fun ns q b hq => by
    rcases q with _ | _ | _ | q
    · cases hq
    · cases hq; rfl
    · cases hq; rfl
    · simp [listMem, dkn] at hq)
theorem alike_3 (b o c : Nat) (f : Nat → UInt64) (p : Nat) (x y z : UInt64) (h : sameU f (urow3 x y z) 3 = true) : Runs Try.prog 19 [.slice (some ⟨b, o, none⟩) 3 c, .slice (some ⟨p, 0, none⟩) 3 3] [⟨b, false, o, tabF 3 fun k => u64 (f k)⟩, ⟨p, false, 0, .lit [u64 x, u64 y, u64 z]⟩] 0
    (fun _ => Value.bool true) (fun _ => [none, none]) := by
  have h0 := (Runs.dark [true, true] (alike_runs b o 3 c p 0 3 f (urow3 x y z) (by decide))).retell (bs' := [⟨b, false, o, tabF 3 fun k => u64 (f k)⟩, ⟨p, false, 0, .lit [u64 x, u64 y, u64 z]⟩]) (fun w hw q hq => by
    simp only [List.mem_cons, List.not_mem_nil, or_false] at hq
    rcases hq with rfl | rfl
    · exact hw _ (by simp)
    · exact (hw ⟨p, false, 0, .lit [u64 x, u64 y, u64 z]⟩ (by simp)).recont urow3_get) rfl (fun ns q b hq => by
    rcases q with _ | _ | q
    · cases hq
    · cases hq
    · simp [listMem, dkn] at hq)
  rw [h] at h0
  exact h0
theorem spread_3 (b r c : Nat) (f : Nat → UInt64) (i j : Int) (w : Nat) (x y z : UInt64) : Runs Try.prog 15 [ptr b 0, int i, int j, .slice (some ⟨w, 0, none⟩) 3 3] [⟨b, false, 0, .lit [.slice (some ⟨r, 0, none⟩) 3 c]⟩, ⟨r, true, 0, tabF 3 fun k => u64 (f k)⟩, ⟨w, false, 0, .lit [u64 x, u64 y, u64 z]⟩] 0
    (fun _ => int (spreadE 3 i j 3)) (fun _ => [none, some ⟨r, true, 0, tabF 3 fun k => u64 (spreadF 3 f i j 3 (urow3 x y z) k)⟩, none]) :=
  (Runs.dark [true, false, true] (spread_runs b r 3 c f i j w 0 3 3 (urow3 x y z) (by decide))).retell (bs' := [⟨b, false, 0, .lit [.slice (some ⟨r, 0, none⟩) 3 c]⟩, ⟨r, true, 0, tabF 3 fun k => u64 (f k)⟩, ⟨w, false, 0, .lit [u64 x, u64 y, u64 z]⟩]) (fun v hw q hq => by
    simp only [List.mem_cons, List.not_mem_nil, or_false] at hq
    rcases hq with rfl | rfl | rfl
    · exact hw _ (by simp)
    · exact hw _ (by simp)
    · exact (hw ⟨w, false, 0, .lit [u64 x, u64 y, u64 z]⟩ (by simp)).recont urow3_get) rfl (fun ns q b hq => by
    rcases q with _ | _ | _ | q
    · cases hq
    · cases hq; rfl
    · cases hq
    · simp [listMem, dkn] at hq)
theorem row3_dark {P : Program} {f : FuncId} {args : List Value} {bs : List Blk} {v v' : Value} {r : Nat} {g : Nat → UInt64} {a0 a1 a2 : UInt64} {tl : List (Option Blk)}
    (h : Runs P f args bs 0 (fun _ => v) (fun _ => none :: some ⟨r, true, 0, tabF 3 fun k => u64 (g k)⟩ :: tl)) (hv : v = v') (h2 : same3 g a0 a1 a2 = true) :
    Runs P f args bs 0 (fun _ => v') (fun _ => none :: some ⟨r, true, 0, tabF 3 fun k => u64 (urow3 a0 a1 a2 k)⟩ :: tl) := by
  subst hv
  exact h.weak fun ns q x hq => by
    rcases q with _ | _ | q
    · cases hq
    · cases hq; exact ⟨_, rfl, rfl, rfl, rfl, (fun h => by cases h), tabF_on (same3_get h2)⟩
    · exact ⟨x, hq, rfl, rfl, rfl, fun _ => rfl, fun _ _ h => h⟩

theorem awake_pure : Pure Try.prog 8 [] (Value.bool true) :=
  pure_of_ev mix Try.func8 rfl rfl 400 (.reg [(0, .g)] (.regn [(0, (.oth [] 1 1 (fun ns => Value.slice (some ⟨ns.getD 0 0, 0, none⟩) 3 3) (fun ns => [some ⟨ns.getD 0 0, true, 0, .lit [(u64 5), (u64 0), (u64 10)]⟩]))), (1, (.call [(0, true)] 3 2 (fun ns => Value.tuple #[ptr (ns.getD 0 0) 0, int 0]) (fun ns => [none, some ⟨(ns.getD 0 0), true, 0, .lit [(Value.slice (some ⟨(ns.getD 1 0), 0, none⟩) 3 (3 + (ns.getD 2 0)))]⟩, some ⟨(ns.getD 1 0), true, 0, (tabF 3 (fun k => u64 (urow3 5 0 10 k)))⟩]))), (2, .g), (3, .g), (4, .g), (5, .g), (6, .g)] (more (fun n1 => more (fun n2 => more (fun n3 => more (fun n4 => fun _ => (.reg [(0, .g), (1, .g), (2, .g), (3, .run .g), (4, .run .g), (5, .pk)] (.no (.reg [(0, .g), (1, (.call [(1, true), (2, false)] 0 0 (fun _ => (int 50)) (fun _ => [none, some ⟨n3, true, 0, (tabF 3 (fun k => u64 (urow3 5 0 10 k)))⟩]))), (2, .g)] (.reg [(0, .g), (1, (.call [(1, true), (2, false)] 0 0 (fun _ => (int 0)) (fun _ => [none, some ⟨n3, true, 0, (tabF 3 (fun k => u64 (urow3 0 5 10 k)))⟩]))), (2, .g)] (.reg [(0, .g), (1, (.call [(1, true), (2, false)] 0 0 (fun _ => (u64 10)) (fun _ => [none, some ⟨n3, true, 0, (tabF 3 (fun k => u64 (urow3 10 5 0 k)))⟩]))), (2, .g)] (.regn [(0, .g), (1, (.call [(1, true), (2, true)] 1 1 (fun ns => Value.slice (some ⟨(ns.getD 0 0), 0, none⟩) 3 3) (fun ns => [none, none, some ⟨(ns.getD 0 0), true, 0, (tabF 3 (fun k => u64 (urow3 10 5 0 k)))⟩]))), (2, .g)] (more (fun n5 => fun _ => (.regn [(0, .g), (1, (.oth [] 1 1 (fun ns => Value.slice (some ⟨ns.getD 0 0, 0, none⟩) 3 3) (fun ns => [some ⟨ns.getD 0 0, true, 0, .lit [(u64 1), (u64 1), (u64 1)]⟩]))), (2, (.call [(1, true), (2, false), (4, true)] 0 0 (fun _ => (int 0)) (fun _ => [none, some ⟨n3, true, 0, (tabF 3 (fun k => u64 (urow3 3 9 3 k)))⟩, none]))), (3, .g)] (more (fun n6 => fun _ => (.regn [(0, .g), (1, (.call [(1, true), (2, true)] 1 1 (fun ns => Value.slice (some ⟨(ns.getD 0 0), 0, none⟩) 3 3) (fun ns => [none, none, some ⟨(ns.getD 0 0), true, 0, (tabF 3 (fun k => u64 (urow3 3 9 3 k)))⟩]))), (2, .g)] (more (fun n7 => fun _ => (.regn [(0, .g), (1, .g), (2, .g), (3, .run .g), (4, .run .g), (5, .pk), (6, .g), (7, .run .g), (8, .run .g), (9, .pk), (10, .g), (11, .run .g), (12, .run (.oth [] 1 1 (fun ns => Value.slice (some ⟨ns.getD 0 0, 0, none⟩) 3 3) (fun ns => [some ⟨ns.getD 0 0, true, 0, .lit [(u64 10), (u64 5), (u64 0)]⟩]))), (13, .run (.call [(3, true), (6, true)] 0 0 (fun _ => (Value.bool true)) (fun _ => [none, none]))), (14, .pk), (15, .g), (16, .run .g), (17, .run .g), (18, .pk), (19, .g), (20, .run .g), (21, .run (.oth [] 1 1 (fun ns => Value.slice (some ⟨ns.getD 0 0, 0, none⟩) 3 3) (fun ns => [some ⟨ns.getD 0 0, true, 0, .lit [(u64 3), (u64 9), (u64 3)]⟩]))), (22, .run (.call [(5, true), (7, true)] 0 0 (fun _ => (Value.bool true)) (fun _ => [none, none]))), (23, .pk), (24, .g)] (more (fun n8 => more (fun n9 => fun _ => .done))))))))))))))))))))))))) []
    (Eq.mp (by kernel_rfl) (And.intro (sk trivial) (fun (n1 n2 n3 n4 : Nat) => And.intro (And.intro (And.intro trivial (mk_build (P := Try.prog) (t := 22) (e := 30) one30 3 #[(0, (u64 5)), (1, (u64 0)), (2, (u64 10))] #[(u64 5), (u64 0), (u64 10)] (by kernel_rfl) (by decide) (by kernel_rfl))) (And.intro (And.intro trivial (Runs.dark [true] (new_3 n1 5 0 10 (goodN_sum.2 (by decide))))) (sk (sk (sk (sk (sk trivial))))))) (And.intro (sk (sk (sk (And.intro (And.intro (@rfl Bool true) t2) (And.intro (And.intro (@rfl Bool true) t2) (And.intro (And.intro trivial (And.intro (fun (_ : false = true) => trivial) (fun (_ : false = false) => trivial))) trivial)))))) (And.intro trivial (And.intro (@rfl Bool false) (And.intro (sk (And.intro (And.intro trivial (row3_dark (a0 := 5) (a1 := 0) (a2 := 10) (Runs.dark [true, false] (move_runs n2 n3 3 (3 + n4) (urow3 5 0 10) 0 1 6 (by decide))) (show int (moveE 3 (urow3 5 0 10) (0 : Int) (1 : Int) 6) = (int 50) from by kernel_rfl) (by kernel_rfl))) (sk trivial))) (And.intro (sk (And.intro (And.intro trivial (row3_dark (a0 := 0) (a1 := 5) (a2 := 10) (Runs.dark [true, false] (move_runs n2 n3 3 (3 + n4) (urow3 5 0 10) 0 1 5 (by decide))) (show int (moveE 3 (urow3 5 0 10) (0 : Int) (1 : Int) 5) = (int 0) from by kernel_rfl) (by kernel_rfl))) (sk trivial))) (And.intro (sk (And.intro (And.intro trivial (row3_dark (a0 := 10) (a1 := 5) (a2 := 0) (Runs.dark [true, false] (take_runs n2 n3 3 (3 + n4) (urow3 0 5 10) 2 0 100 (by decide))) (show u64 (takeV 3 (urow3 0 5 10) (2 : Int) (0 : Int) 100) = (u64 10) from by kernel_rfl) (by kernel_rfl))) (sk trivial))) (fun (n5 : Nat) => And.intro (sk (And.intro (And.intro trivial (Runs.dark [true, true] (all_runs n2 n3 3 (3 + n4) (urow3 10 5 0) (show 3 ≤ 40 from by omega)))) (sk trivial))) (fun (n6 : Nat) => And.intro (sk (And.intro (And.intro trivial (mk_build (P := Try.prog) (t := 22) (e := 30) one30 3 #[(0, (u64 1)), (1, (u64 1)), (2, (u64 1))] #[(u64 1), (u64 1), (u64 1)] (by kernel_rfl) (by decide) (by kernel_rfl))) (And.intro (And.intro trivial (row3_dark (a0 := 3) (a1 := 9) (a2 := 3) (spread_3 n2 n3 (3 + n4) (urow3 10 5 0) 0 1 n6 1 1 1) (show int (spreadE 3 (0 : Int) (1 : Int) 3) = (int 0) from by kernel_rfl) (by kernel_rfl))) (sk trivial)))) (fun (n7 : Nat) => And.intro (sk (And.intro (And.intro trivial (Runs.dark [true, true] (all_runs n2 n3 3 (3 + n4) (urow3 3 9 3) (show 3 ≤ 40 from by omega)))) (sk trivial))) (fun (n8 n9 : Nat) => And.intro (sk (sk (sk (And.intro (And.intro (@rfl Bool true) t2) (And.intro (And.intro (@rfl Bool true) t2) (And.intro (And.intro trivial (And.intro (fun (_ : true = true) => trivial) (fun (_ : true = false) => trivial))) (sk (And.intro (And.intro (@rfl Bool true) t2) (And.intro (And.intro (@rfl Bool true) t2) (And.intro (And.intro trivial (And.intro (fun (_ : true = true) => trivial) (fun (_ : true = false) => trivial))) (sk (And.intro (And.intro (@rfl Bool true) t2) (And.intro (And.intro (@rfl Bool true) (And.intro trivial (mk_build (P := Try.prog) (t := 22) (e := 30) one30 3 #[(0, (u64 10)), (1, (u64 5)), (2, (u64 0))] #[(u64 10), (u64 5), (u64 0)] (by kernel_rfl) (by decide) (by kernel_rfl)))) (And.intro (And.intro (@rfl Bool true) (And.intro trivial (Runs.dark [true, true] (alike_3 n5 0 3 (urow3 10 5 0) n8 10 5 0 (by kernel_rfl))))) (And.intro (And.intro trivial (And.intro (fun (_ : true = true) => trivial) (fun (_ : true = false) => trivial))) (sk (And.intro (And.intro (@rfl Bool true) t2) (And.intro (And.intro (@rfl Bool true) t2) (And.intro (And.intro trivial (And.intro (fun (_ : true = true) => trivial) (fun (_ : true = false) => trivial))) (sk (And.intro (And.intro (@rfl Bool true) t2) (And.intro (And.intro (@rfl Bool true) (And.intro trivial (mk_build (P := Try.prog) (t := 22) (e := 30) one30 3 #[(0, (u64 3)), (1, (u64 9)), (2, (u64 3))] #[(u64 3), (u64 9), (u64 3)] (by kernel_rfl) (by decide) (by kernel_rfl)))) (And.intro (And.intro (@rfl Bool true) (And.intro trivial (Runs.dark [true, true] (alike_3 n7 0 3 (urow3 3 9 3) n9 3 9 3 (by kernel_rfl))))) (And.intro (And.intro trivial (And.intro (fun (_ : true = true) => trivial) (fun (_ : true = false) => trivial))) (sk trivial))))))))))))))))))))))))) (And.intro trivial (@rfl Value (Value.bool true))))))))))))))))

end Go.Proofs.Ytekbbehnlohikaa
