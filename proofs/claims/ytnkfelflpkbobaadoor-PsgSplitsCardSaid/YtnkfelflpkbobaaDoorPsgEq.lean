/-
  Noises held against each other; a sound held against itself.
-/
import Derived.Test.YtnkfelflpkbobaaDoorPsgSound
import Derived.Laws.StructEq
namespace Go.Proofs.YtnkfelflpkbobaaDoor
open Go.RowKit

theorem noise_eq (d : Nat) (m c : Int) (h : Bool) (x : Int) (m' c' : Int) (h' : Bool) (x' : Int) (w : World) :
    (Op.equalIn (d + 2) 27 (.agg #[.int .u8 m, .int .i64 c, .bool h, .int .u16 x]) (.agg #[.int .u8 m', .int .i64 c', .bool h', .int .u16 x'])).run Tryd.prog w = .ok (m == m' && (c == c' && (h == h' && x == x'))) w := by
  have e8 (a b : Int) (w : World) : (Op.equalIn (d + 1) 5 (.int .u8 a) (.int .u8 b)).run Tryd.prog w = .ok (a == b) w := run_equalIn_int w d 5 .u8 .u8 a b Tryd.underlying5
  have ei (a b : Int) (w : World) : (Op.equalIn (d + 1) 3 (.int .i64 a) (.int .i64 b)).run Tryd.prog w = .ok (a == b) w := run_equalIn_int w d 3 .i64 .i64 a b Tryd.underlying3
  have eb (a b : Bool) (w : World) : (Op.equalIn (d + 1) 4 (.bool a) (.bool b)).run Tryd.prog w = .ok (a == b) w := run_equalIn_bool w d 4 a b Tryd.underlying4
  have e16 (a b : Int) (w : World) : (Op.equalIn (d + 1) 25 (.int .u16 a) (.int .u16 b)).run Tryd.prog w = .ok (a == b) w := run_equalIn_int w d 25 .u16 .u16 a b Tryd.underlying25
  rw [run_equalIn_struct w (d + 1) 27 _ _ Tryd.underlying27 (by kernel_rfl)]
  by_cases h0 : m = m' <;> by_cases h1 : c = c' <;> by_cases h2 : h = h' <;> by_cases h3 : x = x' <;> simp [go_sem, e8, ei, eb, e16, h0, h1, h2, h3]
theorem tone_same (d : Nat) (p c : Int) (o : Bool) (w : World) :
    (Op.equalIn (d + 2) 23 (.agg #[.int .i64 p, .int .i64 c, .bool o]) (.agg #[.int .i64 p, .int .i64 c, .bool o])).run Tryd.prog w = .ok true w := by
  have ei (a b : Int) (w : World) : (Op.equalIn (d + 1) 3 (.int .i64 a) (.int .i64 b)).run Tryd.prog w = .ok (a == b) w := run_equalIn_int w d 3 .i64 .i64 a b Tryd.underlying3
  have eb (a b : Bool) (w : World) : (Op.equalIn (d + 1) 4 (.bool a) (.bool b)).run Tryd.prog w = .ok (a == b) w := run_equalIn_bool w d 4 a b Tryd.underlying4
  rw [run_equalIn_struct w (d + 1) 23 _ _ Tryd.underlying23 (by kernel_rfl)]
  simp [go_sem, ei, eb]
theorem quiets_same (d : Nat) (x0 x1 x2 x3 : Int) (w : World) :
    (Op.equalIn (d + 2) 28 (.agg #[.int .u8 x0, .int .u8 x1, .int .u8 x2, .int .u8 x3]) (.agg #[.int .u8 x0, .int .u8 x1, .int .u8 x2, .int .u8 x3])).run Tryd.prog w = .ok true w := by
  unfold Op.equalIn
  simp only [Sem.run_bind, Tryd.runUnderlying28, Result.andThen_ok]
  have hr : List.range' 0 4 = [0, 1, 2, 3] := rfl
  have e (a b : Int) (w : World) : (Op.equalIn (d + 1) 5 (.int .u8 a) (.int .u8 b)).run Tryd.prog w = .ok (a == b) w := run_equalIn_int w d 5 .u8 .u8 a b Tryd.underlying5
  simp [go_sem, hr, e]
theorem tones_same (d : Nat) (p0 c0 : Int) (o0 : Bool) (p1 c1 : Int) (o1 : Bool) (p2 c2 : Int) (o2 : Bool) (w : World) :
    (Op.equalIn (d + 3) 24 (.agg #[.int .i64 p0, .int .i64 c0, .bool o0, .int .i64 p1, .int .i64 c1, .bool o1, .int .i64 p2, .int .i64 c2, .bool o2]) (.agg #[.int .i64 p0, .int .i64 c0, .bool o0, .int .i64 p1, .int .i64 c1, .bool o1, .int .i64 p2, .int .i64 c2, .bool o2])).run Tryd.prog w = .ok true w := by
  unfold Op.equalIn
  simp only [Sem.run_bind, Tryd.runUnderlying24, Result.andThen_ok]
  have hr : List.range' 0 3 = [0, 1, 2] := rfl
  have e := tone_same d
  simp [go_sem, hr, e]
theorem sound_same (p0 c0 : Int) (o0 : Bool) (p1 c1 : Int) (o1 : Bool) (p2 c2 : Int) (o2 : Bool) (m k : Int) (h : Bool) (x q0 q1 q2 q3 l : Int) (w : World) :
    (Op.equalIn 10000 30 (.agg #[.int .i64 p0, .int .i64 c0, .bool o0, .int .i64 p1, .int .i64 c1, .bool o1, .int .i64 p2, .int .i64 c2, .bool o2, .int .u8 m, .int .i64 k, .bool h, .int .u16 x, .int .u8 q0, .int .u8 q1, .int .u8 q2, .int .u8 q3, .int .u8 l])
      (.agg #[.int .i64 p0, .int .i64 c0, .bool o0, .int .i64 p1, .int .i64 c1, .bool o1, .int .i64 p2, .int .i64 c2, .bool o2, .int .u8 m, .int .i64 k, .bool h, .int .u16 x, .int .u8 q0, .int .u8 q1, .int .u8 q2, .int .u8 q3, .int .u8 l])).run Tryd.prog w = .ok true w := by
  have e1 := tones_same 9996 p0 c0 o0 p1 c1 o1 p2 c2 o2
  have e2 (w : World) := noise_eq 9997 m k h x m k h x w
  have e3 := quiets_same 9997 q0 q1 q2 q3
  have e8 (a b : Int) (w : World) : (Op.equalIn 9999 5 (.int .u8 a) (.int .u8 b)).run Tryd.prog w = .ok (a == b) w := run_equalIn_int w 9998 5 .u8 .u8 a b Tryd.underlying5
  simp only [Nat.reduceAdd] at e1 e2 e3
  rw [run_equalIn_struct w 9999 30 _ _ Tryd.underlying30 (by kernel_rfl)]
  simp [go_sem, e1, e2, e3, e8]
theorem Snd.same (S : Snd) (w : World) : (Op.equalIn 10000 30 S.v S.v).run Tryd.prog w = .ok true w := sound_same _ _ _ _ _ _ _ _ _ _ _ _ _ _ _ _ _ _ w

end Go.Proofs.YtnkfelflpkbobaaDoor
