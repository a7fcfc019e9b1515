/-
  The document's answers of layer 1, lifted.
-/
import Derived.Test.YtikfnopccneijaaLimbFns
import Derived.Test.YtikfnopccneijaaLimbRef2
namespace Go.Proofs.Ytikfnopccneijaa
open Go Go.Eng
set_option linter.unusedVariables false
set_option linter.unusedSimpArgs false
set_option exponentiation.threshold 600
set_option maxRecDepth 100000

theorem bit_out (a : N4) (n : Int) (hn : n < 0 ∨ 255 < n) : Pure Try.prog 50 [(nat4 a), (int n)] (u64 (bitI a n)) :=
  pure_of_ev mix Try.func50 rfl rfl 400 (.regn [(0, .new), (1, .g)] (more (fun n1 => fun _ => (.reg [(0, .g), (1, .g), (2, .g), (3, .opt .g), (4, .opt .g), (5, .pk)] (.yes (.reg [(0, .g)] .done)))))) []
    (Eq.mp (by kernel_rfl) (fun (n1 : Nat) => And.intro (sk (sk trivial)) (And.intro (sk (sk (sk (And.intro (fun (hg : (sameB (decide ((n : Int) < 0)) false) = true) => t2) (And.intro (fun (hg : (sameB (decide ((n : Int) < 0)) false) = true) => (And.intro (And.intro hg trivial) trivial)) (And.intro (And.intro trivial (And.intro (fun (_ : (decide ((n : Int) < 0)) = true) => trivial) (fun (hp : (decide ((n : Int) < 0)) = false) => (sameB_mkf hp)))) trivial)))))) ((fun (hp1 : (selB (decide ((n : Int) < 0)) true (decide ((n : Int) ≥ 256))) = true) => And.intro trivial (And.intro hp1 (And.intro (sk trivial) (And.intro trivial ((show (u64 0) = u64 (bitI a n) by rw [bitI_out hn] <;> rfl)))))) (show (selB (decide ((n : Int) < 0)) true (decide ((n : Int) ≥ 256))) = true from by have f0 : n < 0 ∨ 255 < n := hn; simp only [selB_and, selB_or, Bool.or_eq_true, Bool.or_eq_false_iff, Bool.and_eq_true, Bool.and_eq_false_iff, decide_eq_true_eq, decide_eq_false_iff_not]; omega)))))

theorem bit_pure (a : N4) (n : Int) : Pure Try.prog 50 [nat4 a, int n] (u64 (bitI a n)) := by
  by_cases hn : n < 0 ∨ 255 < n
  · exact bit_out a n hn
  · obtain ⟨k, rfl⟩ : ∃ k : Nat, n = k := ⟨n.toNat, by omega⟩
    rw [← bitI_bit4 a k (by omega)]; exact bit_in a k (by omega)

end Go.Proofs.Ytikfnopccneijaa
