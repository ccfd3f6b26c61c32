/-
  Places compared. Condition: lines and columns below 2^53.
-/
import Derived.Test.YthlkmlphbepnpaaFloat
import Derived.Test.YthlkmlphbepnpaaPg13
namespace Go.Proofs.Ythlkmlphbepnpaa
open Go Ieee Go.RowKit Go.Deep

theorem fcmp_self (n : Nat) (hn : n < 9007199254740992) (w : World) : (Op.floatCmp .eql .f64 (rungOf n) (rungOf n)).run Try.prog w = .ok (.bool true) w := by
  have h := rung_order n n hn hn
  rw [Nat.compare_eq_eq.2 rfl] at h
  simp [Op.floatCmp, FloatKind.format, h]
theorem fcmp_one (w : World) : (Op.floatCmp .eql .f64 4607182418800017408 4607182418800017408).run Try.prog w = .ok (.bool true) w := by kernel_rfl
theorem cplx_same (n : Nat) (hn : n < 9007199254740992) (w : World) : (binOp .neq 28 (.complex .f64 4607182418800017408 (floatOfInt .f64 (n : Int))) (.complex .f64 4607182418800017408 (floatOfInt .f64 (n : Int)))).run Try.prog w = .ok (.bool false) w := by
  rw [floatOfInt_nat n hn]
  have h1 := fcmp_self n hn
  have h2 := fcmp_one
  simp [binOp, go_sem, Op.complexOp, Op.Complex.cmp, h1, h2]
end Go.Proofs.Ythlkmlphbepnpaa
