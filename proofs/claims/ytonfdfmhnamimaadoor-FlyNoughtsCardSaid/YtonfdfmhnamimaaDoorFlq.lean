/-
  Arrays of complex numbers held against one another.
-/
import Derived.Test.YtonfdfmhnamimaaDoorFl1
namespace Go.Proofs.YtonfdfmhnamimaaDoor
open Flo Go.RowKit
theorem eqC {d : Nat} (a b a' b' : Nat) (w : World) : (Op.equalIn (d + 1) 28 (.complex .f64 a b) (.complex .f64 a' b')).run Tryd.prog w = .ok (Op.floatEq .f64 a a' && Op.floatEq .f64 b b') w := by
  kernel_rfl
theorem eqA2 (d0 : Nat) (a b c d a' b' c' d' : Nat) (w : World) (h1 : Op.floatEq .f64 a a' = true) (h2 : Op.floatEq .f64 b b' = true) (h3 : Op.floatEq .f64 c c' = true) (h4 : Op.floatEq .f64 d d' = true) :
    (Op.equalIn (d0 + 1 + 1) 35 (.agg #[.complex .f64 a b, .complex .f64 c d]) (.agg #[.complex .f64 a' b', .complex .f64 c' d'])).run Tryd.prog w = .ok true w := by
  rw [Op.equalIn]
  simp [go_sem]
  rw [show List.range' 0 2 = [0, 1] from rfl]
  simp [eqC, h1, h2, h3, h4, go_sem]
theorem eqA4 (d0 : Nat) (a b c d a' b' c' d' e f g h e' f' g' h' : Nat) (w : World) (h1 : Op.floatEq .f64 a a' = true) (h2 : Op.floatEq .f64 b b' = true) (h3 : Op.floatEq .f64 c c' = true) (h4 : Op.floatEq .f64 d d' = true) (h5 : Op.floatEq .f64 e e' = true) (h6 : Op.floatEq .f64 f f' = true) (h7 : Op.floatEq .f64 g g' = true) (h8 : Op.floatEq .f64 h h' = true) :
    (Op.equalIn (d0 + 1 + 1) 37 (.agg #[.complex .f64 a b, .complex .f64 c d, .complex .f64 e f, .complex .f64 g h]) (.agg #[.complex .f64 a' b', .complex .f64 c' d', .complex .f64 e' f', .complex .f64 g' h'])).run Tryd.prog w = .ok true w := by
  rw [Op.equalIn]
  simp [go_sem]
  rw [show List.range' 0 4 = [0, 1, 2, 3] from rfl]
  simp [eqC, h1, h2, h3, h4, h5, h6, h7, h8, go_sem]
theorem run_eqA2 (a b c d a' b' c' d' : Nat) (h1 : Op.floatEq .f64 a a' = true) (h2 : Op.floatEq .f64 b b' = true) (h3 : Op.floatEq .f64 c c' = true) (h4 : Op.floatEq .f64 d d' = true) (w : World) :
    (binOp .eql 35 (.agg #[.complex .f64 a b, .complex .f64 c d]) (.agg #[.complex .f64 a' b', .complex .f64 c' d'])).run Tryd.prog w = .ok (.bool true) w := by
  have e : binOp .eql 35 (.agg #[.complex .f64 a b, .complex .f64 c d]) (.agg #[.complex .f64 a' b', .complex .f64 c' d']) = (do pure (.bool (← Op.equalIn (9998 + 1 + 1) 35 (.agg #[.complex .f64 a b, .complex .f64 c d]) (.agg #[.complex .f64 a' b', .complex .f64 c' d'])))) := rfl
  rw [e]
  simp [eqA2 9998 a b c d a' b' c' d' _ h1 h2 h3 h4, go_sem]
theorem run_neA2 (a b c d a' b' c' d' : Nat) (h1 : Op.floatEq .f64 a a' = true) (h2 : Op.floatEq .f64 b b' = true) (h3 : Op.floatEq .f64 c c' = true) (h4 : Op.floatEq .f64 d d' = true) (w : World) :
    (binOp .neq 35 (.agg #[.complex .f64 a b, .complex .f64 c d]) (.agg #[.complex .f64 a' b', .complex .f64 c' d'])).run Tryd.prog w = .ok (.bool false) w := by
  have e : binOp .neq 35 (.agg #[.complex .f64 a b, .complex .f64 c d]) (.agg #[.complex .f64 a' b', .complex .f64 c' d']) = (do pure (.bool (!(← Op.equalIn (9998 + 1 + 1) 35 (.agg #[.complex .f64 a b, .complex .f64 c d]) (.agg #[.complex .f64 a' b', .complex .f64 c' d']))))) := rfl
  rw [e]
  simp [eqA2 9998 a b c d a' b' c' d' _ h1 h2 h3 h4, go_sem]
theorem run_eqA4 (a b c d a' b' c' d' e f g h e' f' g' h' : Nat) (h1 : Op.floatEq .f64 a a' = true) (h2 : Op.floatEq .f64 b b' = true) (h3 : Op.floatEq .f64 c c' = true) (h4 : Op.floatEq .f64 d d' = true) (h5 : Op.floatEq .f64 e e' = true) (h6 : Op.floatEq .f64 f f' = true) (h7 : Op.floatEq .f64 g g' = true) (h8 : Op.floatEq .f64 h h' = true) (w : World) :
    (binOp .eql 37 (.agg #[.complex .f64 a b, .complex .f64 c d, .complex .f64 e f, .complex .f64 g h]) (.agg #[.complex .f64 a' b', .complex .f64 c' d', .complex .f64 e' f', .complex .f64 g' h'])).run Tryd.prog w = .ok (.bool true) w := by
  have e : binOp .eql 37 (.agg #[.complex .f64 a b, .complex .f64 c d, .complex .f64 e f, .complex .f64 g h]) (.agg #[.complex .f64 a' b', .complex .f64 c' d', .complex .f64 e' f', .complex .f64 g' h']) = (do pure (.bool (← Op.equalIn (9998 + 1 + 1) 37 (.agg #[.complex .f64 a b, .complex .f64 c d, .complex .f64 e f, .complex .f64 g h]) (.agg #[.complex .f64 a' b', .complex .f64 c' d', .complex .f64 e' f', .complex .f64 g' h'])))) := rfl
  rw [e]
  simp [eqA4 9998 a b c d a' b' c' d' _ _ _ _ _ _ _ _ _ h1 h2 h3 h4 h5 h6 h7 h8, go_sem]
theorem run_neA4 (a b c d a' b' c' d' e f g h e' f' g' h' : Nat) (h1 : Op.floatEq .f64 a a' = true) (h2 : Op.floatEq .f64 b b' = true) (h3 : Op.floatEq .f64 c c' = true) (h4 : Op.floatEq .f64 d d' = true) (h5 : Op.floatEq .f64 e e' = true) (h6 : Op.floatEq .f64 f f' = true) (h7 : Op.floatEq .f64 g g' = true) (h8 : Op.floatEq .f64 h h' = true) (w : World) :
    (binOp .neq 37 (.agg #[.complex .f64 a b, .complex .f64 c d, .complex .f64 e f, .complex .f64 g h]) (.agg #[.complex .f64 a' b', .complex .f64 c' d', .complex .f64 e' f', .complex .f64 g' h'])).run Tryd.prog w = .ok (.bool false) w := by
  have e : binOp .neq 37 (.agg #[.complex .f64 a b, .complex .f64 c d, .complex .f64 e f, .complex .f64 g h]) (.agg #[.complex .f64 a' b', .complex .f64 c' d', .complex .f64 e' f', .complex .f64 g' h']) = (do pure (.bool (!(← Op.equalIn (9998 + 1 + 1) 37 (.agg #[.complex .f64 a b, .complex .f64 c d, .complex .f64 e f, .complex .f64 g h]) (.agg #[.complex .f64 a' b', .complex .f64 c' d', .complex .f64 e' f', .complex .f64 g' h']))))) := rfl
  rw [e]
  simp [eqA4 9998 a b c d a' b' c' d' _ _ _ _ _ _ _ _ _ h1 h2 h3 h4 h5 h6 h7 h8, go_sem]
end Go.Proofs.YtonfdfmhnamimaaDoor
