/-
  Many in one: JouAw, Jou7, Jou8, Jou9, JouLx, JouA.
-/
import Derived.Test.YtagbdahcopkpjaaDoorZJournalWrites14
section
namespace Go.Proofs.YtagbdahcopkpjaaDoor
open Go Go.Eng
set_option linter.unusedVariables false
set_option linter.unusedSimpArgs false
set_option maxRecDepth 100000
set_option maxHeartbeats 1000000
theorem awake_run : RunsO famT Tryd.prog 8 [] [] 0 (fun (_ : List Nat) => Value.bool true) (fun (_ : List Nat) => []) :=
  runsO_of_ev mix Tryd.func8 rfl rfl 400 (.reg [(0, .g)] (.regn [(0, (.callO [] 1 2 (fun ns => ptr (ns.getD 0 0) 0) (fun ns => [some ⟨(ns.getD 0 0), true, 0, .lit [gsV D0]⟩, gsE u8C [u8 0] 1 D0]))), (1, .g)] (more (fun n1 => fun _ => (.reg [(0, .g), (1, .g)] (.no (.regn [(0, .g), (1, (.oth [] 1 1 (fun ns => Value.slice (some ⟨ns.getD 0 0, 0, none⟩) 2 2) (fun ns => [some ⟨ns.getD 0 0, true, 0, .lit [(u8 1), (u8 2)]⟩]))), (2, (.callO [(0, false), (1, false), (2, true)] 2 0 (fun ns => (int 0)) (fun ns => [some ⟨n1, true, 0, .lit [gsV (Grw.cat D0 (8 + 2) (frF 2 (bytsOf [1, 2])) (ns.getD 0 0) (ns.getD 1 0))]⟩, (gsE u8C [u8 0] 1 (Grw.cat D0 (8 + 2) (frF 2 (bytsOf [1, 2])) (ns.getD 0 0) (ns.getD 1 0))), none])))] (more (fun n2 => more (fun n3 => more (fun n4 => fun _ => (.regn [(0, .g), (1, (.callO [(0, false), (1, false)] 2 0 (fun ns => (int 0)) (fun ns => [some ⟨n1, true, 0, .lit [gsV (Grw.cat (Grw.cat D0 (8 + 2) (frF 2 (bytsOf [1, 2])) n3 n4) (8 + 0) (frF 0 (fun _ => 0)) (ns.getD 0 0) (ns.getD 1 0))]⟩, (gsE u8C [u8 0] 1 (Grw.cat (Grw.cat D0 (8 + 2) (frF 2 (bytsOf [1, 2])) n3 n4) (8 + 0) (frF 0 (fun _ => 0)) (ns.getD 0 0) (ns.getD 1 0)))])))] (more (fun n5 => more (fun n6 => fun _ => (.regn [(0, .g), (1, (.callO [(0, false), (1, false)] 4 2 (fun ns => (gsV (gsOf (nR (Grw.cat (Grw.cat D0 (8 + 2) (frF 2 (bytsOf [1, 2])) n3 n4) (8 + 0) (frF 0 (fun _ => 0)) n5 n6).f (0 + (8 + 2) + (8 + 0))) (elF (ns.getD 0 0) (ns.getD 1 0) (jL (Grw.cat (Grw.cat D0 (8 + 2) (frF 2 (bytsOf [1, 2])) n3 n4) (8 + 0) (frF 0 (fun _ => 0)) n5 n6).f) (jf (Grw.cat (Grw.cat D0 (8 + 2) (frF 2 (bytsOf [1, 2])) n3 n4) (8 + 0) (frF 0 (fun _ => 0)) n5 n6).f)) (ns.getD 2 0) (ns.getD 3 0)))) (fun ns => [some ⟨n1, true, 0, (.lit [(gsV (Grw.cat (Grw.cat D0 (8 + 2) (frF 2 (bytsOf [1, 2])) n3 n4) (8 + 0) (frF 0 (fun _ => 0)) n5 n6))])⟩, (gsE u8C [u8 0] 1 (Grw.cat (Grw.cat D0 (8 + 2) (frF 2 (bytsOf [1, 2])) n3 n4) (8 + 0) (frF 0 (fun _ => 0)) n5 n6)), (gsE slqC [Value.slice none 0 0] 1 (gsOf (nR (Grw.cat (Grw.cat D0 (8 + 2) (frF 2 (bytsOf [1, 2])) n3 n4) (8 + 0) (frF 0 (fun _ => 0)) n5 n6).f (0 + (8 + 2) + (8 + 0))) (elF (ns.getD 0 0) (ns.getD 1 0) (jL (Grw.cat (Grw.cat D0 (8 + 2) (frF 2 (bytsOf [1, 2])) n3 n4) (8 + 0) (frF 0 (fun _ => 0)) n5 n6).f) (jf (Grw.cat (Grw.cat D0 (8 + 2) (frF 2 (bytsOf [1, 2])) n3 n4) (8 + 0) (frF 0 (fun _ => 0)) n5 n6).f)) (ns.getD 2 0) (ns.getD 3 0))), (plO (nR (Grw.cat (Grw.cat D0 (8 + 2) (frF 2 (bytsOf [1, 2])) n3 n4) (8 + 0) (frF 0 (fun _ => 0)) n5 n6).f (0 + (8 + 2) + (8 + 0))) (ns.getD 0 0) (ns.getD 1 0) (jL (Grw.cat (Grw.cat D0 (8 + 2) (frF 2 (bytsOf [1, 2])) n3 n4) (8 + 0) (frF 0 (fun _ => 0)) n5 n6).f) (jf (Grw.cat (Grw.cat D0 (8 + 2) (frF 2 (bytsOf [1, 2])) n3 n4) (8 + 0) (frF 0 (fun _ => 0)) n5 n6).f))]))), (2, .g)] (more (fun n7 => more (fun n8 => more (fun n9 => more (fun n10 => fun _ => (.regn [(0, .g), (1, (.oth [] 1 1 (fun ns => Value.slice (some ⟨ns.getD 0 0, 0, none⟩) 1 1) (fun ns => [some ⟨ns.getD 0 0, true, 0, .lit [(u8 3)]⟩]))), (2, (.callO [(0, false), (1, false), (5, true)] 2 0 (fun ns => (int 0)) (fun ns => [some ⟨n1, true, 0, .lit [gsV (Grw.cat (Grw.cat (Grw.cat D0 (8 + 2) (frF 2 (bytsOf [1, 2])) n3 n4) (8 + 0) (frF 0 (fun _ => 0)) n5 n6) (min (Int.toNat 8) (8 + 1)) (frF 1 (bytsOf [3])) (ns.getD 0 0) (ns.getD 1 0))]⟩, (gsE u8C [u8 0] 1 (Grw.cat (Grw.cat (Grw.cat D0 (8 + 2) (frF 2 (bytsOf [1, 2])) n3 n4) (8 + 0) (frF 0 (fun _ => 0)) n5 n6) (min (Int.toNat 8) (8 + 1)) (frF 1 (bytsOf [3])) (ns.getD 0 0) (ns.getD 1 0))), none])))] (more (fun n11 => more (fun n12 => more (fun n13 => fun _ => (.regn [(0, .g), (1, (.callO [(0, false), (1, false)] 2 1 (fun ns => gsV (clD (Grw.cat (Grw.cat (Grw.cat D0 (8 + 2) (frF 2 (bytsOf [1, 2])) n3 n4) (8 + 0) (frF 0 (fun _ => 0)) n5 n6) (min (Int.toNat 8) (8 + 1)) (frF 1 (bytsOf [3])) n12 n13) (ns.getD 0 0) (ns.getD 1 0))) (fun ns => [some ⟨n1, true, 0, (.lit [(gsV (Grw.cat (Grw.cat (Grw.cat D0 (8 + 2) (frF 2 (bytsOf [1, 2])) n3 n4) (8 + 0) (frF 0 (fun _ => 0)) n5 n6) (min (Int.toNat 8) (8 + 1)) (frF 1 (bytsOf [3])) n12 n13))])⟩, (gsE u8C [u8 0] 1 (Grw.cat (Grw.cat (Grw.cat D0 (8 + 2) (frF 2 (bytsOf [1, 2])) n3 n4) (8 + 0) (frF 0 (fun _ => 0)) n5 n6) (min (Int.toNat 8) (8 + 1)) (frF 1 (bytsOf [3])) n12 n13)), (gsE u8C [u8 0] 1 (clD (Grw.cat (Grw.cat (Grw.cat D0 (8 + 2) (frF 2 (bytsOf [1, 2])) n3 n4) (8 + 0) (frF 0 (fun _ => 0)) n5 n6) (min (Int.toNat 8) (8 + 1)) (frF 1 (bytsOf [3])) n12 n13) (ns.getD 0 0) (ns.getD 1 0)))]))), (2, (.callO [(6, true)] 3 2 (fun ns => ptr (ns.getD 0 0) 0) (fun ns => [none, some ⟨(ns.getD 0 0), true, 0, .lit [gsV (opG (recD (Grw.cat (Grw.cat (Grw.cat D0 (8 + 2) (frF 2 (bytsOf [1, 2])) n3 n4) (8 + 0) (frF 0 (fun _ => 0)) n5 n6) (min (Int.toNat 8) (8 + 1)) (frF 1 (bytsOf [3])) n12 n13)) (ns.getD 1 0) (ns.getD 2 0))]⟩, (gsE u8C [u8 0] 1 (opG (recD (Grw.cat (Grw.cat (Grw.cat D0 (8 + 2) (frF 2 (bytsOf [1, 2])) n3 n4) (8 + 0) (frF 0 (fun _ => 0)) n5 n6) (min (Int.toNat 8) (8 + 1)) (frF 1 (bytsOf [3])) n12 n13)) (ns.getD 1 0) (ns.getD 2 0)))]))), (3, .g)] (more (fun n14 => more (fun n15 => more (fun n16 => more (fun n17 => more (fun n18 => fun _ => (.reg [(0, .g), (1, .g)] (.no (.reg [(0, .g), (1, (.callO [(7, false), (8, false)] 0 0 (fun _ => nat (nR (opG (recD (Grw.cat (Grw.cat (Grw.cat D0 (8 + 2) (frF 2 (bytsOf [1, 2])) n3 n4) (8 + 0) (frF 0 (fun _ => 0)) n5 n6) (min (Int.toNat 8) (8 + 1)) (frF 1 (bytsOf [3])) n12 n13)) n17 n18).f ((opG (recD (Grw.cat (Grw.cat (Grw.cat D0 (8 + 2) (frF 2 (bytsOf [1, 2])) n3 n4) (8 + 0) (frF 0 (fun _ => 0)) n5 n6) (min (Int.toNat 8) (8 + 1)) (frF 1 (bytsOf [3])) n12 n13)) 0 0).n))) (fun _ => [some ⟨n16, true, 0, (.lit [(gsV (opG (recD (Grw.cat (Grw.cat (Grw.cat D0 (8 + 2) (frF 2 (bytsOf [1, 2])) n3 n4) (8 + 0) (frF 0 (fun _ => 0)) n5 n6) (min (Int.toNat 8) (8 + 1)) (frF 1 (bytsOf [3])) n12 n13)) n17 n18))])⟩, (gsE u8C [u8 0] 1 (opG (recD (Grw.cat (Grw.cat (Grw.cat D0 (8 + 2) (frF 2 (bytsOf [1, 2])) n3 n4) (8 + 0) (frF 0 (fun _ => 0)) n5 n6) (min (Int.toNat 8) (8 + 1)) (frF 1 (bytsOf [3])) n12 n13)) n17 n18))]))), (2, .g)] (.regn [(0, .g), (1, (.oth [] 1 1 (fun ns => Value.slice (some ⟨ns.getD 0 0, 0, none⟩) 2 2) (fun ns => [some ⟨ns.getD 0 0, true, 0, .lit [(u8 1), (u8 2)]⟩]))), (2, .bsl), (3, (.callO [(3, true), (4, true), (10, true), (9, true)] 0 0 (fun _ => Value.bool (true)) (fun _ => [none, none, none, none]))), (4, .g), (5, .run .g), (6, .run (.as (Value.bool (decide ((nR (opG (recD (Grw.cat (Grw.cat (Grw.cat D0 (8 + 2) (frF 2 (bytsOf [1, 2])) n3 n4) (8 + 0) (frF 0 (fun _ => 0)) n5 n6) (min (Int.toNat 8) (8 + 1)) (frF 1 (bytsOf [3])) n12 n13)) n17 n18).f ((opG (recD (Grw.cat (Grw.cat (Grw.cat D0 (8 + 2) (frF 2 (bytsOf [1, 2])) n3 n4) (8 + 0) (frF 0 (fun _ => 0)) n5 n6) (min (Int.toNat 8) (8 + 1)) (frF 1 (bytsOf [3])) n12 n13)) 0 0).n)) = 2))))), (7, .pk), (8, .g)] (more (fun n19 => more (fun n20 => fun _ => .done)))))))))))))))))))))))))))))))))))))))) [] [] rfl
    (Eq.mp (by kernel_rfl) (And.intro (sk trivial) (fun (n1 : Nat) => And.intro (And.intro (And.intro trivial (open_nil (F := famT) (fun z hz => hz))) (sk trivial)) (And.intro (sk (sk trivial)) (And.intro trivial (And.intro (@rfl Bool false) (fun (n2 n3 n4 : Nat) => And.intro (sk (And.intro (And.intro trivial (mk_build (P := Tryd.prog) (t := 22) (e := 5) one5 2 #[(0, (u8 1)), (1, (u8 2))] #[(u8 1), (u8 2)] (by kernel_rfl) (by decide) (by kernel_rfl))) (And.intro (And.intro trivial (append_lit (F := famT) (fun z hz => hz) n1 D0 (fun _ => rfl) (show (D0).n ≤ 100000000 from (show 0 ≤ 100000000 from by omega)) n2 2 (bytsOf [1, 2]) (cs := [(u8 1), (u8 2)]) (by decide) rfl)) trivial))) (fun (n5 n6 : Nat) => And.intro (sk (And.intro (And.intro trivial (RunsO.sub (sh_TB (fun z hz => hz) (sh_sub (famB_none rfl))) (nm_TB (fun z hz => hz) (nm_sub (famB_none rfl))) (append_ok n1 (Grw.cat D0 (8 + 2) (frF 2 (bytsOf [1, 2])) n3 n4) (bytZ none 0) (Grw.cat_ok (fun _ => rfl) _ _ _ _) (show ((Grw.cat D0 (8 + 2) (frF 2 (bytsOf [1, 2])) n3 n4)).n ≤ 100000000 from (show 0 + (8 + 2) ≤ 100000000 from by omega)) okb_nil (by decide)))) trivial)) (fun (n7 n8 n9 n10 : Nat) => And.intro (sk (And.intro (And.intro trivial (recs_run (F := famT) (fun z hz => hz) n1 (Grw.cat (Grw.cat D0 (8 + 2) (frF 2 (bytsOf [1, 2])) n3 n4) (8 + 0) (frF 0 (fun _ => 0)) n5 n6) (Grw.cat_ok (Grw.cat_ok (fun _ => rfl) _ _ _ _) _ _ _ _) (show ((Grw.cat (Grw.cat D0 (8 + 2) (frF 2 (bytsOf [1, 2])) n3 n4) (8 + 0) (frF 0 (fun _ => 0)) n5 n6)).n ≤ 100000000 from (show 0 + (8 + 2) + (8 + 0) ≤ 100000000 from by omega)))) (sk trivial))) (fun (n11 n12 n13 : Nat) => And.intro (sk (And.intro (And.intro trivial (mk_build (P := Tryd.prog) (t := 22) (e := 5) one5 1 #[(0, (u8 3))] #[(u8 3)] (by kernel_rfl) (by decide) (by kernel_rfl))) (And.intro (And.intro trivial (torn_lit (F := famT) (fun z hz => hz) n1 (Grw.cat (Grw.cat D0 (8 + 2) (frF 2 (bytsOf [1, 2])) n3 n4) (8 + 0) (frF 0 (fun _ => 0)) n5 n6) (Grw.cat_ok (Grw.cat_ok (fun _ => rfl) _ _ _ _) _ _ _ _) (show ((Grw.cat (Grw.cat D0 (8 + 2) (frF 2 (bytsOf [1, 2])) n3 n4) (8 + 0) (frF 0 (fun _ => 0)) n5 n6)).n ≤ 100000000 from (show 0 + (8 + 2) + (8 + 0) ≤ 100000000 from by omega)) n11 1 (bytsOf [3]) (cs := [(u8 3)]) 8 (by decide) rfl)) trivial))) (fun (n14 n15 n16 n17 n18 : Nat) => And.intro (sk (And.intro (And.intro trivial (disk_run (F := famT) n1 (Grw.cat (Grw.cat (Grw.cat D0 (8 + 2) (frF 2 (bytsOf [1, 2])) n3 n4) (8 + 0) (frF 0 (fun _ => 0)) n5 n6) (min (Int.toNat 8) (8 + 1)) (frF 1 (bytsOf [3])) n12 n13) (Grw.cat_ok (Grw.cat_ok (Grw.cat_ok (fun _ => rfl) _ _ _ _) _ _ _ _) _ _ _ _) (show ((Grw.cat (Grw.cat (Grw.cat D0 (8 + 2) (frF 2 (bytsOf [1, 2])) n3 n4) (8 + 0) (frF 0 (fun _ => 0)) n5 n6) (min (Int.toNat 8) (8 + 1)) (frF 1 (bytsOf [3])) n12 n13)).n ≤ 100000000 from (show 0 + (8 + 2) + (8 + 0) + (min (Int.toNat 8) (8 + 1)) ≤ 100000000 from by omega)))) (And.intro (And.intro trivial (open_cl (F := famT) (fun z hz => hz) (Grw.cat (Grw.cat (Grw.cat D0 (8 + 2) (frF 2 (bytsOf [1, 2])) n3 n4) (8 + 0) (frF 0 (fun _ => 0)) n5 n6) (min (Int.toNat 8) (8 + 1)) (frF 1 (bytsOf [3])) n12 n13) n14 n15 (Grw.cat_ok (Grw.cat_ok (Grw.cat_ok (fun _ => rfl) _ _ _ _) _ _ _ _) _ _ _ _) (show ((Grw.cat (Grw.cat (Grw.cat D0 (8 + 2) (frF 2 (bytsOf [1, 2])) n3 n4) (8 + 0) (frF 0 (fun _ => 0)) n5 n6) (min (Int.toNat 8) (8 + 1)) (frF 1 (bytsOf [3])) n12 n13)).n ≤ 100000000 from (show 0 + (8 + 2) + (8 + 0) + (min (Int.toNat 8) (8 + 1)) ≤ 100000000 from by omega)))) (sk trivial)))) (And.intro (sk (sk trivial)) (And.intro trivial (And.intro (@rfl Bool false) (And.intro (sk (And.intro (And.intro trivial (jlen_run (F := famT) (fun z hz => hz) n16 (opG (recD (Grw.cat (Grw.cat (Grw.cat D0 (8 + 2) (frF 2 (bytsOf [1, 2])) n3 n4) (8 + 0) (frF 0 (fun _ => 0)) n5 n6) (min (Int.toNat 8) (8 + 1)) (frF 1 (bytsOf [3])) n12 n13)) n17 n18) (opG_ok (recD_ok (Grw.cat_ok (Grw.cat_ok (Grw.cat_ok (fun _ => rfl) _ _ _ _) _ _ _ _) _ _ _ _) (show ((Grw.cat (Grw.cat (Grw.cat D0 (8 + 2) (frF 2 (bytsOf [1, 2])) n3 n4) (8 + 0) (frF 0 (fun _ => 0)) n5 n6) (min (Int.toNat 8) (8 + 1)) (frF 1 (bytsOf [3])) n12 n13)).n ≤ 9223372036854775807 from (show 0 + (8 + 2) + (8 + 0) + (min (Int.toNat 8) (8 + 1)) ≤ 9223372036854775807 from by have fo0 : (opG (recD (Grw.cat (Grw.cat (Grw.cat D0 (8 + 2) (frF 2 (bytsOf [1, 2])) n3 n4) (8 + 0) (frF 0 (fun _ => 0)) n5 n6) (min (Int.toNat 8) (8 + 1)) (frF 1 (bytsOf [3])) n12 n13)) 0 0).n ≤ 0 + (8 + 2) + (8 + 0) + (min (Int.toNat 8) (8 + 1)) := (opG_len _ _ _); omega))) _ _) (show ((opG (recD (Grw.cat (Grw.cat (Grw.cat D0 (8 + 2) (frF 2 (bytsOf [1, 2])) n3 n4) (8 + 0) (frF 0 (fun _ => 0)) n5 n6) (min (Int.toNat 8) (8 + 1)) (frF 1 (bytsOf [3])) n12 n13)) n17 n18)).n ≤ 100000000 from (show (opG (recD (Grw.cat (Grw.cat (Grw.cat D0 (8 + 2) (frF 2 (bytsOf [1, 2])) n3 n4) (8 + 0) (frF 0 (fun _ => 0)) n5 n6) (min (Int.toNat 8) (8 + 1)) (frF 1 (bytsOf [3])) n12 n13)) 0 0).n ≤ 100000000 from by have fo0 : (opG (recD (Grw.cat (Grw.cat (Grw.cat D0 (8 + 2) (frF 2 (bytsOf [1, 2])) n3 n4) (8 + 0) (frF 0 (fun _ => 0)) n5 n6) (min (Int.toNat 8) (8 + 1)) (frF 1 (bytsOf [3])) n12 n13)) 0 0).n ≤ 0 + (8 + 2) + (8 + 0) + (min (Int.toNat 8) (8 + 1)) := (opG_len _ _ _); omega)))) (sk trivial))) (fun (n19 n20 : Nat) => And.intro (sk (And.intro (And.intro trivial (mk_build (P := Tryd.prog) (t := 22) (e := 5) one5 2 #[(0, (u8 1)), (1, (u8 2))] #[(u8 1), (u8 2)] (by kernel_rfl) (by decide) (by kernel_rfl))) (And.intro (And.intro trivial (mk_build (P := Tryd.prog) (t := 24) (e := 22) one22 2 #[(0, (Value.slice (some ⟨n19, 0, none⟩) 2 2)), (1, (Value.slice none 0 0))] #[(Value.slice (some ⟨n19, 0, none⟩) 2 2), (Value.slice none 0 0)] (by kernel_rfl) (by decide) (by kernel_rfl))) (And.intro (And.intro trivial (lists_at (aw_same n3 n4 n5 n6 n19 n7 n8 n9 n20 n10) (lists_any (F := famT) (recS (gsOf (nR (Grw.cat (Grw.cat D0 (8 + 2) (frF 2 (bytsOf [1, 2])) n3 n4) (8 + 0) (frF 0 (fun _ => 0)) n5 n6).f (0 + (8 + 2) + (8 + 0))) (elF n7 n8 (jL (Grw.cat (Grw.cat D0 (8 + 2) (frF 2 (bytsOf [1, 2])) n3 n4) (8 + 0) (frF 0 (fun _ => 0)) n5 n6).f) (jf (Grw.cat (Grw.cat D0 (8 + 2) (frF 2 (bytsOf [1, 2])) n3 n4) (8 + 0) (frF 0 (fun _ => 0)) n5 n6).f)) n9 n10)) (bysO n20 2 2 (brow [(bytO n19 2 2 (bytsOf [1, 2])), (bytZ none 0)])) (recS_own (show 0 + (8 + 2) + (8 + 0) ≤ 9223372036854775807 from by have fo0 : (opG (recD (Grw.cat (Grw.cat (Grw.cat D0 (8 + 2) (frF 2 (bytsOf [1, 2])) n3 n4) (8 + 0) (frF 0 (fun _ => 0)) n5 n6) (min (Int.toNat 8) (8 + 1)) (frF 1 (bytsOf [3])) n12 n13)) 0 0).n ≤ 0 + (8 + 2) + (8 + 0) + (min (Int.toNat 8) (8 + 1)) := (opG_len _ _ _); omega)) (oks_own (Nat.le_refl _) (by decide) (brow2 (P := fun _ z => OkB z) (okb_own (Nat.le_refl _) (by decide)) okb_nil)) (bs := [roO (gsE slqC [Value.slice none 0 0] 1 (gsOf (nR (Grw.cat (Grw.cat D0 (8 + 2) (frF 2 (bytsOf [1, 2])) n3 n4) (8 + 0) (frF 0 (fun _ => 0)) n5 n6).f (0 + (8 + 2) + (8 + 0))) (elF n7 n8 (jL (Grw.cat (Grw.cat D0 (8 + 2) (frF 2 (bytsOf [1, 2])) n3 n4) (8 + 0) (frF 0 (fun _ => 0)) n5 n6).f) (jf (Grw.cat (Grw.cat D0 (8 + 2) (frF 2 (bytsOf [1, 2])) n3 n4) (8 + 0) (frF 0 (fun _ => 0)) n5 n6).f)) n9 n10)), roO (plO (nR (Grw.cat (Grw.cat D0 (8 + 2) (frF 2 (bytsOf [1, 2])) n3 n4) (8 + 0) (frF 0 (fun _ => 0)) n5 n6).f (0 + (8 + 2) + (8 + 0))) n7 n8 (jL (Grw.cat (Grw.cat D0 (8 + 2) (frF 2 (bytsOf [1, 2])) n3 n4) (8 + 0) (frF 0 (fun _ => 0)) n5 n6).f) (jf (Grw.cat (Grw.cat D0 (8 + 2) (frF 2 (bytsOf [1, 2])) n3 n4) (8 + 0) (frF 0 (fun _ => 0)) n5 n6).f)), some ⟨n20, false, 0, (.lit [(Value.slice (some ⟨n19, 0, none⟩) 2 2), (Value.slice none 0 0)])⟩, some ⟨n19, false, 0, (.lit [(u8 1), (u8 2)])⟩]) (fun w hw hb => hold_or (own_fam0 hb) (lit_fam rfl (hb 2 _ rfl) (brow2 (P := fun _ z => FamH (famB z) w) (holdb_own (holds_litB (hb 3 _ rfl) rfl)) (fun z hz => absurd hz.1 (Nat.lt_irrefl 0)))))))) (sk (And.intro (And.intro (@rfl Bool true) t2) (And.intro (And.intro (@rfl Bool true) (And.intro trivial (@is_eqln Tryd.prog 3 3 (.tmp 30) (.const (.int .i64 2))  (nR (opG (recD (Grw.cat (Grw.cat (Grw.cat D0 (8 + 2) (frF 2 (bytsOf [1, 2])) n3 n4) (8 + 0) (frF 0 (fun _ => 0)) n5 n6) (min (Int.toNat 8) (8 + 1)) (frF 1 (bytsOf [3])) n12 n13)) n17 n18).f ((opG (recD (Grw.cat (Grw.cat (Grw.cat D0 (8 + 2) (frF 2 (bytsOf [1, 2])) n3 n4) (8 + 0) (frF 0 (fun _ => 0)) n5 n6) (min (Int.toNat 8) (8 + 1)) (frF 1 (bytsOf [3])) n12 n13)) 0 0).n)) 2))) (And.intro (And.intro trivial (And.intro (fun (_ : true = true) => trivial) (fun (_ : true = false) => trivial))) (sk trivial))))))))) (And.intro trivial (@Exists.intro (List Nat) (fun (ns : List Nat) => ns.length = 0 ∧ ((Value.bool (selB true (decide ((nR (opG (recD (Grw.cat (Grw.cat (Grw.cat D0 (8 + 2) (frF 2 (bytsOf [1, 2])) n3 n4) (8 + 0) (frF 0 (fun _ => 0)) n5 n6) (min (Int.toNat 8) (8 + 1)) (frF 1 (bytsOf [3])) n12 n13)) n17 n18).f ((opG (recD (Grw.cat (Grw.cat (Grw.cat D0 (8 + 2) (frF 2 (bytsOf [1, 2])) n3 n4) (8 + 0) (frF 0 (fun _ => 0)) n5 n6) (min (Int.toNat 8) (8 + 1)) (frF 1 (bytsOf [3])) n12 n13)) 0 0).n)) = 2)) false)) : Value) = (fun (_ : List Nat) => Value.bool true) ns ∧ ([] : List (Option Blk)) = (fun (_ : List Nat) => []) ns) [] (And.intro (@rfl Nat 0) (And.intro ((show (Value.bool (selB true (decide ((nR (opG (recD (Grw.cat (Grw.cat (Grw.cat D0 (8 + 2) (frF 2 (bytsOf [1, 2])) n3 n4) (8 + 0) (frF 0 (fun _ => 0)) n5 n6) (min (Int.toNat 8) (8 + 1)) (frF 1 (bytsOf [3])) n12 n13)) n17 n18).f ((opG (recD (Grw.cat (Grw.cat (Grw.cat D0 (8 + 2) (frF 2 (bytsOf [1, 2])) n3 n4) (8 + 0) (frF 0 (fun _ => 0)) n5 n6) (min (Int.toNat 8) (8 + 1)) (frF 1 (bytsOf [3])) n12 n13)) 0 0).n)) = 2)) false)) = Value.bool true from congrArg Value.bool (aw_end n3 n4 n5 n6 n12 n13 n17 n18))) (@rfl (List (Option Blk)) [])))))))))))))))))))))
end Go.Proofs.YtagbdahcopkpjaaDoor
end
section
namespace Go.Eng
open Go.RowKit
set_option linter.unusedSimpArgs false
set_option linter.unusedVariables false
set_option maxRecDepth 100000
theorem own_ref {q : BytL} {K J c d nm r nm' r' : Nat} {L : Nat → Nat} {f : Nat → Nat → UInt8} (hK : K = J) (hL : L = jL q.wf) (hf : f = jf q.wf) : listsB (recS (gsOf K (elF c d L f) nm r)) (recS (gsOf J (rpF q) nm' r')) = true := by
  subst hK hL hf
  exact lists_true rfl fun k hk => ⟨(rpF_wn q k).symm, fun i hi => (rpF_wf q k i).symm⟩
theorem recS_ref {q : BytL} {nm r : Nat} (hq : OkB q) (h : q.wn ≤ 9223372036854775807) : OkS (recS (gsOf (nR q.wf q.wn) (rpF q) nm r)) := recS_ok (gsOf_ok _ _ _ _) (nR_lim h) (fun k hk => rpF_ok hq hk)
theorem same_refl {f g : Nat → UInt8} {n m : Nat} (hn : n = m) (hf : f = g) : sameS f n g m = true := by
  subst hn hf
  exact decide_eq_true ⟨rfl, fun k hk => rfl⟩
theorem RunsO.vtrue {F : Blk → Prop} {P : Program} {f : FuncId} {args : List Value} {bs : List (Option Blk)} {b : Bool} {out : List Nat → List (Option Blk)} (hb : b = true) (h : RunsO F P f args bs 0 (fun _ => Value.bool b) out) : RunsO F P f args bs 0 (fun _ => Value.bool true) out := hb ▸ h
end Go.Eng
end
section
namespace Go.Eng
open Go.RowKit
set_option linter.unusedSimpArgs false
set_option linter.unusedVariables false
set_option maxRecDepth 100000
theorem gs_to {α : Type} {A : Grw α} (h : A.ok) {i : Nat} (hi : i ≤ A.n) : i ≤ gsC A := Nat.le_trans hi (gs_le h)
end Go.Eng
end
section
namespace Go.Eng
open Go.RowKit
set_option linter.unusedSimpArgs false
set_option linter.unusedVariables false
set_option maxRecDepth 100000
end Go.Eng
end
section
namespace Go.Proofs.YtagbdahcopkpjaaDoor
open Go Go.Eng
set_option linter.unusedVariables false
set_option linter.unusedSimpArgs false
set_option maxRecDepth 100000
set_option maxHeartbeats 1000000
theorem same_any {F : Blk → Prop} (A B : BytL) (hA : OkB A) (hB : OkB B) {bs : List (Option Blk)} (h : ∀ w : World, FamH F w → (∀ p b, listMem bs p = some b → Holds b w) → FamH (famBB A B) w) : RunsO F Tryd.prog 16 [.slice A.wa A.wn A.wc, .slice B.wa B.wn B.wc] bs 0 (fun _ => .bool (sameS A.wf A.wn B.wf B.wn)) (fun _ => bs.map fun _ => none) := by
  have h1 := (same_fam A B hA hB).toO.lendL (F := F) (bs := bs) h
  simpa using h1
end Go.Proofs.YtagbdahcopkpjaaDoor
end
section
namespace Go.Eng
open Go.RowKit Go.WideShapes Go.ChangeShapes Go.ChangeAt Go.Deep
set_option linter.unusedSimpArgs false
set_option linter.unusedVariables false
set_option maxRecDepth 100000
section
variable {P : Program} {t ty e : TypeId} {i : TypeInfo} {z : Value}
def wetV (g h : Nat → Value) (len n c : Nat) (z : Value) : Nat → Value := fun k => if k < len + n then catV g len h k else if c = 0 then g k else z
theorem srun_appendW (ht : P.underlying t = some (.slice e)) (hi : P.info? e = some i) (hz : i.zero = some z) (hsz : i.size = 1) (hzc : z.cells = #[z])
    {b len r k bo os n cc : Nat} {g h : Nat → Value} {S : Cont} (hS : ∀ j, j < n → S.get (os + j) = some (h j)) (h1 : ∀ j, j < n → (h j).oneCell' = true)
    (hb : (len + n) * i.bytes ≤ 140737488355328) (hb2 : len + n ≤ 9223372036854775807) :
    SRuns P (appendSem t ty (.slice (some ⟨b, 0, none⟩) len (len + r)) (.slice (some ⟨k, bo + os, none⟩) n cc)) [⟨b, true, 0, tabF (len + r) g⟩, ⟨k, false, bo, S⟩] 3
      (fun ns => .slice (some ⟨ns.getD 0 0, 0, none⟩) (len + n) (len + n + ns.getD 1 0))
      (fun ns => [some ⟨ns.getD 0 0, true, 0, tabF (len + n + ns.getD 1 0) (wetV g h len n (ns.getD 2 0) z)⟩, some ⟨k, false, bo, S⟩]) := by
  by_cases hr : n ≤ r
  · intro w hall ha
    have hA : Holds ⟨b, true, 0, tabF (len + r) g⟩ w := hall _ (by simp)
    have hK : Holds ⟨k, false, bo, S⟩ w := hall _ (by simp)
    have hnews : ∀ j u, ((List.range n).map h)[j]? = some u → w.cell? ((⟨k, bo + os, none⟩ : Addr).add j) = some u := fun j u hj => by
      obtain ⟨hjn, rfl⟩ := map_range_get hj
      rw [add_none, Nat.add_assoc]
      exact hK.cell _ _ (hS j hjn)
    have hone : ∀ u ∈ (List.range n).map h, u.oneCell' = true := fun u hu => by
      obtain ⟨j, hj, rfl⟩ := List.mem_map.1 hu
      exact h1 j (List.mem_range.1 hj)
    have hm : ∀ p c, listMem [some ⟨b, true, 0, tabF (len + r) g⟩, some ⟨k, false, bo, S⟩] p = some c → Holds c w := fun p c hc => hall c (List.mem_of_getElem? (listMem_some (l := [⟨b, true, 0, tabF (len + r) g⟩, ⟨k, false, bo, S⟩]).1 hc))
    have hget : ∀ j, j < n → (tabF (len + r) g).get (len + j) = some (g (len + j)) := fun j hj => by
      rw [tabF_in (by omega)]
    have hrun := run_append_room_cells (P := P) w t ty e i ht hi b 0 len (len + r) ⟨k, bo + os, none⟩ n cc ((List.range n).map h) (by simp [hsz]) hnews hone (by omega)
      (fun j hj => by
        have hj' : j < n := by simpa using hj
        have := hA.cell _ _ (hget j hj')
        rw [show 0 + len * i.size + j = 0 + (len + j) by rw [hsz]; omega, this]; rfl)
      (fun j hj => by
        have hj' : j < n := by simpa using hj
        have := hA.free rfl _ _ (hget j hj')
        rw [show 0 + len * i.size + j = 0 + (len + j) by rw [hsz]; omega]; exact this)
    have hrun2 : (Builtin.append_ #[t, t] ty #[.slice (some ⟨b, 0, none⟩) len (len + r), .slice (some ⟨k, bo + os, none⟩) n cc]).run P w = .ok (.slice (some ⟨b, 0, none⟩) (len + n) (len + n + (r - n))) (w.setCells b (0 + len * i.size) ((List.range n).map h)) := by
      rw [show len + n + (r - n) = len + r by omega]; exact hrun
    refine ⟨[b, r - n, 0], _, rfl, .inl (run_value hrun2), ?_⟩
    have hp := post_cells (m := listMem [some ⟨b, true, 0, tabF (len + r) g⟩, some ⟨k, false, bo, S⟩]) (w := w) (p := 0) (b := ⟨b, true, 0, tabF (len + r) g⟩) (o0 := len) (cs := (List.range n).map h)
      (c := tabF (len + r) (wetV g h len n 0 z)) hm ha rfl rfl rfl rfl (fun j hj => ⟨g (len + j), hget j (by simpa using hj)⟩) (fun j => by
        have hlen : ((List.range n).map h).length = n := by simp
        rw [hlen]
        by_cases hj : j < len + r
        · rw [tabF_in hj, tabF_in hj, wetV]
          by_cases h2 : j < len
          · rw [if_neg (show ¬ (len ≤ j ∧ j < len + n) by omega), if_pos (show j < len + n by omega), catV, if_pos h2]
          · by_cases h3 : j < len + n
            · rw [if_pos (show len ≤ j ∧ j < len + n by omega), if_pos h3, catV, if_neg h2, List.getElem?_map, List.getElem?_range (by omega)]; rfl
            · rw [if_neg (show ¬ (len ≤ j ∧ j < len + n) by omega), if_neg h3, if_pos rfl]
        · rw [tabF_out hj, tabF_out hj, if_neg (show ¬ (len ≤ j ∧ j < len + n) by omega)])
    rw [listMem_set0] at hp
    have e1 : len + n + (r - n) = len + r := by omega
    simpa [hsz, e1] using hp
  ·
    intro w hall ha
    have hA : Holds ⟨b, true, 0, tabF (len + r) g⟩ w := hall _ (by simp)
    have hK : Holds ⟨k, false, bo, S⟩ w := hall _ (by simp)
    have hnews : ∀ j u, ((List.range n).map h)[j]? = some u → w.cell? ((⟨k, bo + os, none⟩ : Addr).add j) = some u := fun j u hj => by
      obtain ⟨hjn, rfl⟩ := map_range_get hj
      rw [add_none, Nat.add_assoc]
      exact hK.cell _ _ (hS j hjn)
    have hm : ∀ p c, listMem [some ⟨b, true, 0, tabF (len + r) g⟩, some ⟨k, false, bo, S⟩] p = some c → Holds c w := fun p c hc => hall c (List.mem_of_getElem? (listMem_some (l := [⟨b, true, 0, tabF (len + r) g⟩, ⟨k, false, bo, S⟩]).1 hc))
    have hg : len + r < len + n := by omega
    have hrun := run_append_grow (P := P) w t ty e i z ht hi hz ⟨b, 0, none⟩ len (len + r) ((List.range len).map g) (by simp [hsz])
      (fun j v hj => by
        obtain ⟨hjn, rfl⟩ := map_range_get hj
        rw [add_none, Nat.zero_add]
        have := hA.cell j (g j) (by rw [tabF_in (by omega)])
        rw [Nat.zero_add] at this; exact this)
      ⟨k, bo + os, none⟩ n cc ((List.range n).map h) (by simp [hsz]) hnews hg (by omega) (growslice_fits hg hb)
    have hge := grownCap_ge w (len + n) (len + r) e
    obtain ⟨q, hq⟩ : ∃ q, grownCap w (len + n) (len + r) e = len + n + q := ⟨_, (Nat.add_sub_cancel' hge).symm⟩
    rw [hq] at hrun
    refine ⟨[w.heap.size, q, 1], _, rfl, .inl (run_value hrun), ?_⟩
    have hp0 := Post.drew hm ha
    have hp := hp0.trans (post_new hp0.holds hp0.apart 0 (((List.range len).map g).toArray ++ ((List.range n).map h).toArray ++ Builtin.zeroCells z.cells (len + n + q - (len + n))) e)
    rw [show w.drew.heap.size = w.heap.size from rfl, listMem_set0] at hp
    have hc : ∀ o v, (tabF (len + n + q) (wetV g h len n 1 z)).get o = some v →
        (Cont.lit (((List.range len).map g).toArray ++ ((List.range n).map h).toArray ++ Builtin.zeroCells z.cells (len + n + q - (len + n))).toList).get o = some v := fun o v ho => by
      rw [hzc, show len + n + q - (len + n) = q by omega]
      simp only [Cont.get, Array.toList_append, List.append_assoc, zeroCells_one]
      by_cases h0 : o < len + n + q
      · rw [tabF_in h0, wetV] at ho
        by_cases h2 : o < len
        · rw [if_pos (by omega), catV, if_pos h2] at ho
          rw [List.getElem?_append_left (by simp; exact h2), List.getElem?_map, List.getElem?_range h2]; exact ho
        · rw [List.getElem?_append_right (by simp; omega)]
          by_cases h3 : o < len + n
          · rw [if_pos h3, catV, if_neg h2] at ho
            rw [List.getElem?_append_left (by simp; omega), List.getElem?_map]
            simp only [List.length_map, List.length_range]
            rw [List.getElem?_range (by omega)]; exact ho
          · rw [if_neg h3, if_neg (by decide)] at ho
            rw [List.getElem?_append_right (by simp; omega), List.getElem?_replicate, if_pos (by simp; omega)]; exact ho
      · rw [tabF_out h0] at ho; cases ho
    have hN := (hp.holds 0 _ rfl).recont rfl hc
    refine ⟨fun p c hpc => ?_, fun p p' c d hpp hc1 hd ho => ?_, ⟨hp.adv.os, hp.adv.output, hp.adv.tape, hp.adv.size, hp.adv.heap, fun j hj => ?_, fun p c hpc ho => ?_⟩⟩
    · rcases p with _ | _ | p
      · injection hpc with hpc; subst hpc; exact hN
      · injection hpc with hpc; subst hpc; exact hp.holds 1 _ rfl
      · simp [listMem] at hpc
    · rcases p with _ | _ | p
      · injection hc1 with hc1; subst hc1
        rcases p' with _ | _ | p'
        · exact absurd rfl hpp
        · injection hd with hd; subst hd
          have h01 := hp.apart 0 1 _ _ (by omega) rfl rfl rfl
          exact h01
        · simp [listMem] at hd
      · injection hc1 with hc1; subst hc1; cases ho
      · simp [listMem] at hc1
    · obtain ⟨p, c, hpc, ho, hjk⟩ := hj
      rcases p with _ | _ | p
      · injection hpc with hpc; subst hpc
        exact .inr (Nat.le_of_eq hjk)
      · injection hpc with hpc; subst hpc; cases ho
      · simp [listMem] at hpc
    · rcases p with _ | _ | p
      · injection hpc with hpc; subst hpc; cases ho
      · exact hpc
      · simp [listMem] at hpc
end
def wetF (f : Nat → UInt8) (n : Nat) (h : Nat → UInt8) (m c : Nat) : Nat → UInt8 := fun k => if k < n + m then catU f n h k else if c = 0 then f k else 0
theorem wetF_lt {f : Nat → UInt8} {n : Nat} {h : Nat → UInt8} {m c k : Nat} (hk : k < n + m) : wetF f n h m c k = catU f n h k := if_pos hk
theorem wetV_K (f : Nat → UInt8) (n : Nat) (h : Nat → UInt8) (m c : Nat) : wetV (fun k => u8 (f k)) (fun k => u8 (h k)) n m c (u8 0) = fun k => u8 (wetF f n h m c k) := by
  funext k
  unfold wetV wetF
  by_cases h1 : k < n + m
  · rw [if_pos h1, if_pos h1]
    unfold catV catU
    by_cases h2 : k < n
    · rw [if_pos h2, if_pos h2]
    · rw [if_neg h2, if_neg h2]
  · rw [if_neg h1, if_neg h1]
    by_cases h2 : c = 0
    · rw [if_pos h2, if_pos h2]
    · rw [if_neg h2, if_neg h2]
def Grw.wet (A : Grw UInt8) (m : Nat) (h : Nat → UInt8) (a r c : Nat) : Grw UInt8 := ⟨decide (m = 0) && A.z, a, A.n + m, r, wetF A.f A.n h m c⟩
def gw (A : Grw UInt8) : Option Blk := match A.z with
  | true => none
  | false => some ⟨A.nm, true, 0, tabF (A.n + A.r) fun k => u8 (A.f k)⟩
theorem gw_nil {A : Grw UInt8} (h : A.z = true) : gw A = none := by unfold gw; rw [h]
theorem gw_own {A : Grw UInt8} (h : A.z = false) : gw A = some ⟨A.nm, true, 0, tabF (A.n + A.r) fun k => u8 (A.f k)⟩ := by unfold gw; rw [h]
theorem wet_ok {A : Grw UInt8} (hA : A.ok) (m : Nat) (h : Nat → UInt8) (a r c : Nat) : (A.wet m h a r c).ok := fun hz => by
  have h1 : (decide (m = 0) && A.z) = true := hz
  rw [Bool.and_eq_true, decide_eq_true_eq] at h1
  show A.n + m = 0
  rw [hA h1.2, h1.1]
theorem mkW_cat {P : Program} {t ty e : TypeId} (ht : P.underlying t = some (.slice e)) (h1 : OneC P e (u8 0) 1) (A : Grw UInt8) (hA : A.ok) (h : Nat → UInt8) (m : Nat) (adr : Option Addr) (cc : Nat) (ob : Option Blk)
    (hs : 0 < m → ∃ k bo os S, adr = some ⟨k, bo + os, none⟩ ∧ ob = some ⟨k, false, bo, S⟩ ∧ ∀ j, j < m → S.get (os + j) = some (u8 (h j)))
    (hb : (A.n + m) * 1 ≤ 140737488355328 ∧ A.n + m ≤ 9223372036854775807) :
    SRunsO P (appendSem t ty (gsV A) (.slice adr m cc)) [gw A, ob] 3 (fun ns => gsV (A.wet m h (ns.getD 0 0) (ns.getD 1 0) (ns.getD 2 0))) (fun ns => [gw (A.wet m h (ns.getD 0 0) (ns.getD 1 0) (ns.getD 2 0)), none]) := by
  rcases Nat.eq_zero_or_pos m with hm | hm
  · subst hm
    have hcap : A.n ≤ gsC A := by
      unfold gsC; cases hz : A.z with
      | true => rw [hA hz]; exact Nat.zero_le _
      | false => simp only; omega
    obtain ⟨i, hi, hz0, hsz, hB, hzc⟩ := h1
    have key := (srun_append_noneM (P := P) (t := t) (ty := ty) (sz := 1) ht (by simp [sizeB, hi, hsz]) (gsA A) A.n (gsC A) hcap adr 0 cc rfl).toO
    intro w hm ha
    obtain ⟨ns, w', hns, he, hp⟩ := key w (fun p b hb => by cases p <;> cases hb) (fun p q b c _ hb => by cases p <;> cases hb)
    have ef : wetF A.f A.n h 0 0 = A.f := by
      funext k
      unfold wetF catU
      by_cases hk : k < A.n
      · rw [if_pos (by omega), if_pos hk]
      · rw [if_neg (by omega), if_pos rfl]
    have ew : A.wet 0 h A.nm A.r 0 = A := by
      obtain ⟨z, a, n, r, f⟩ := A
      have ef' : wetF f n h 0 0 = f := ef
      unfold Grw.wet
      simp only [decide_true, Bool.true_and, Nat.add_zero, ef']
    refine ⟨[A.nm, A.r, 0], w', rfl, ?_, ?_⟩
    · show _ ∨ _
      simp only [List.getD_cons_zero, List.getD_cons_succ, ew]
      exact he
    · simp only [List.getD_cons_zero, List.getD_cons_succ, ew]
      have hnil : ∀ p : Nat, listMem (List.map some ([] : List Blk)) p = none := fun p => by simp [listMem]
      have hadv := hp.adv
      have hw : ∀ k, k < w.heap.size → w'.heap[k]? = w.heap[k]? := fun k hk => hadv.heap k hk fun ⟨p, b, hb, _⟩ => by rw [hnil] at hb; cases hb
      have hsub : ∀ p b, listMem [gw A, none] p = some b → p = 0 ∧ gw A = some b := fun p b hb => by
        rcases p with _ | _ | p
        · exact ⟨rfl, hb⟩
        · cases hb
        · simp [listMem] at hb
      refine ⟨fun p b hb => ?_, fun p q b c hpq hb hc ho => ?_, ⟨hadv.os, hadv.output, hadv.tape, hadv.size, fun k hk _ => hw k hk, fun k ⟨p, b, hb, ho, hk⟩ => ?_, fun p b hb ho => ?_⟩⟩
      · obtain ⟨rfl, h2⟩ := hsub p b hb
        have := hm 0 b h2
        exact this.of_heap hadv.size fun k hk => hw _ (this.has_lt hk)
      · obtain ⟨rfl, _⟩ := hsub p b hb
        obtain ⟨rfl, _⟩ := hsub q c hc
        exact absurd rfl hpq
      · obtain ⟨rfl, h2⟩ := hsub p b hb
        exact .inl ⟨0, b, h2, ho, hk⟩
      · obtain ⟨rfl, h2⟩ := hsub p b hb
        cases hz : A.z with
        | true => rw [gw_nil hz] at h2; cases h2
        | false => rw [gw_own hz] at h2; exact absurd (by injection h2 with h2; rw [← h2]) (show ¬ b.own = true from by rw [ho]; decide)
  · obtain ⟨k, bo, os, S, rfl, rfl, hS⟩ := hs hm
    have hmz : decide (m = 0) = false := decide_eq_false (by omega)
    have hwz : ∀ a r c, (A.wet m h a r c).z = false := fun a r c => by simp [Grw.wet, hmz]
    cases hz : A.z with
    | true =>
      have hn := hA hz
      rw [gsV_nil hz hA, gw_nil hz]
      have key := (mk_append_nil (P := P) (t := t) (ty := ty) ht h1 k bo os m cc u8 h S hS ⟨hm, by rw [hn, Nat.zero_add] at hb; exact hb.1, by omega⟩).toO
      have e1 : ∀ ns : List Nat, gsV (A.wet m h (ns.getD 0 0) (ns.getD 1 0) 1) = .slice (some ⟨ns.getD 0 0, 0, none⟩) m (m + ns.getD 1 0) := fun ns => by
        rw [gsV_own (hwz _ _ _)]; simp only [Grw.wet, hn, Nat.zero_add]
      have e2 : ∀ ns : List Nat, gw (A.wet m h (ns.getD 0 0) (ns.getD 1 0) 1) = some ⟨ns.getD 0 0, true, 0, spr (m + ns.getD 1 0) m (fun k => u8 (h k)) (u8 0)⟩ := fun ns => by
        rw [gw_own (hwz _ _ _)]; simp only [Grw.wet, hn, Nat.zero_add]
        congr 2
        unfold spr
        congr 1
        funext k
        unfold wetF catU
        by_cases hk : k < m
        · rw [if_pos (by omega), if_neg (by omega), if_pos hk]; rfl
        · rw [if_neg (by omega), if_neg (by decide), if_neg hk]
      refine key.conv (fun p => p + 1) ⟨fun p q b c _ _ e => Nat.succ.inj e, fun p b hb => ⟨b, by rw [lm1]; exact hb, fun _ h => h, rfl, fun _ h => h⟩⟩ (fun p => p + 1) (fun ns => [ns.getD 0 0, ns.getD 1 0, 1]) fun ns hns => ⟨rfl, e1 ns, fun p q b c _ _ e => Nat.succ.inj e, fun p b hb => ?_⟩
      rcases p with _ | _ | p
      · rw [lm0] at hb; simp only [List.getD_cons_zero, List.getD_cons_succ, e2] at hb; injection hb with hb; subst hb
        exact ⟨rfl, _, rfl, fun _ h => h, rfl, fun _ h => h⟩
      · cases hb
      · simp [listMem] at hb
    | false =>
      rw [gsV_own hz, gw_own hz]
      obtain ⟨i, hi, hz0, hsz, hB, hzc⟩ := h1
      have key := (srun_appendW (P := P) (t := t) (ty := ty) ht hi hz0 hsz hzc (b := A.nm) (len := A.n) (r := A.r) (k := k) (bo := bo) (os := os) (n := m) (cc := cc) (g := fun k => u8 (A.f k)) (h := fun k => u8 (h k)) (S := S) hS (fun j _ => rfl) (by rw [hB]; exact hb.1) hb.2).toO
      refine key.as (.refl _) id fun ns _ => ⟨by assumption, ?_, ?_, ?_⟩
      · show gsV _ = _
        rw [gsV_own (hwz _ _ _)]; simp only [Grw.wet, id]
      · rw [gw_own (hwz _ _ _)]
        simp only [Grw.wet, id, wetV_K]
        exact .kp _ _ ⟨fun _ h => h, rfl, fun w hw => hw⟩ (.dr _ (.zz _))
      · rw [gw_own (hwz _ _ _)]; exact ⟨rfl, trivial⟩
end Go.Eng
end
