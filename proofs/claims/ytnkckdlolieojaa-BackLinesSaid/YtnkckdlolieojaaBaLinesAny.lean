/-
  The law BackLines, whatever comes.
-/
import Derived.Test.YtnkckdlolieojaaBaLines
namespace Go.Proofs.Ytnkckdlolieojaa
open Go.RowKit

theorem lines_any (a1 a2 : Option Addr) (n1 c1 n2 c2 : Nat) (many at_ : Int) (xs1 xs2 : Nat → Nat) (r0 r1 r2 r3 r4 r5 r6 r7 r8 r9 r10 : Nat) (L : Int) (b0 : r0 < 256) (b2 : r2 < 256) (b8_ : r8 < 256) (b9 : r9 < 256) (w : World) (h1 : ByteRow w a1 n1 xs1) (h2 : ByteRow w a2 n2 xs2) :
    Calls Try.prog 4 #[.agg #[.slice a1 n1 c1, .slice a2 n2 c2, .int .i64 many, .int .i64 at_], regsV r0 r1 r2 r3 r4 r5 r6 r7 r8 r9 r10, .int .i64 L] w fun e w' => e = .returned (.bool true) ∧ Below w.heap.size w w' := by
  by_cases l1 : n1 ≤ 300
  · by_cases l2 : n2 ≤ 300
    · by_cases k0 : L < 0
      · exact lines_by a1 a2 n1 c1 n2 c2 many at_ xs1 xs2 r0 r1 r2 r3 r4 r5 r6 r7 r8 r9 r10 L (fun _ _ _ => 0) (fun _ _ _ => false) (Lib.hid fun _ _ _ => by decide) (Lib.hid fun a n cap xs w _ => line_o a n cap r0 r1 r2 r3 r4 r5 r6 r7 r8 r9 r10 L (.inl k0) w) (Lib.hid fun a n cap xs x w _ _ => rback_o0 a n cap r0 r1 r2 r3 r4 r5 r6 r7 r8 r9 r10 L x k0 w) w h1 h2 l1 l2
      · by_cases k1 : 191 < L
        · exact lines_by a1 a2 n1 c1 n2 c2 many at_ xs1 xs2 r0 r1 r2 r3 r4 r5 r6 r7 r8 r9 r10 L (fun _ _ _ => 0) (fun _ _ _ => false) (Lib.hid fun _ _ _ => by decide) (Lib.hid fun a n cap xs w _ => line_o a n cap r0 r1 r2 r3 r4 r5 r6 r7 r8 r9 r10 L (.inr k1) w) (Lib.hid fun a n cap xs x w _ _ => rback_o1 a n cap r0 r1 r2 r3 r4 r5 r6 r7 r8 r9 r10 L x k1 w) w h1 h2 l1 l2
        · obtain ⟨line, rfl⟩ := Int.eq_ofNat_of_zero_le (by omega : 0 ≤ L)
          exact lines_by a1 a2 n1 c1 n2 c2 many at_ xs1 xs2 r0 r1 r2 r3 r4 r5 r6 r7 r8 r9 r10 (line : Int) (fun n xs => gColor n xs r0 r2 r8 r9 line) (fun n xs => gFront n xs r0 r2 r8 r9 line) (Lib.hid fun _ _ _ => gColor_lt _ _ _ _ _ _ _ _) (Lib.hid fun a n cap xs w hV => line_in a n cap xs r0 r1 r2 r3 r4 r5 r6 r7 r8 r9 r10 line b0 b2 b8_ b9 (by omega) (line : Int) rfl _ _ rfl rfl w hV) (Lib.hid fun a n cap xs x w hx hV => rback_in a n cap xs r0 r1 r2 r3 r4 r5 r6 r7 r8 r9 r10 line x b0 b2 b8_ b9 (by omega) hx _ _ rfl rfl w hV) w h1 h2 l1 l2
    · exact lines_o2 a1 a2 n1 c1 n2 c2 many at_ r0 r1 r2 r3 r4 r5 r6 r7 r8 r9 r10 L w l1 (by omega)
  · exact lines_o1 a1 a2 n1 c1 n2 c2 many at_ r0 r1 r2 r3 r4 r5 r6 r7 r8 r9 r10 L w (by omega)

end Go.Proofs.Ytnkckdlolieojaa
