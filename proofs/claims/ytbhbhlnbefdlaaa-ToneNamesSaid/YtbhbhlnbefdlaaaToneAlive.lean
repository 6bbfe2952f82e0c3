/-
  The laws' own helper toneAlive answers true; the law ToneNames returns true. Nothing that was there is written.
-/
import Derived.Test.YtbhbhlnbefdlaaaToneRun
import Derived.Laws.StructEq
namespace Go.Proofs.Ytbhbhlnbefdlaaa
open Go.RowKit

theorem ToneAt.inside {w : World} {b : Nat} {p c : Int} {o : Bool} (h : ToneAt w b p c o) : b < w.heap.size := Whole.inside h
theorem step_at (p c : Int) (o : Bool) (p' c' : Int) (o' b : Bool) (hc : c ≤ 1023) (h : p = p' ∧ nextC p c = c' ∧ nextO p c o = o' ∧ turns p c = b) (w : World) :
    Calls Try.prog 11 #[.agg #[.int .i64 p, .int .i64 c, .bool o]] w fun e w' =>
      e = .returned (.tuple #[.agg #[.int .i64 p', .int .i64 c', .bool o'], .bool b]) ∧ Below w.heap.size w w' := by
  obtain ⟨rfl, rfl, rfl, rfl⟩ := h
  exact step_any p c o hc w
theorem right_at (p c : Int) (o b : Bool) (h : rightB p c = b) (w : World) :
    Calls Try.prog 8 #[.agg #[.int .i64 p, .int .i64 c, .bool o]] w fun e w' => e = .returned (.bool b) ∧ Below w.heap.size w w' := by
  subst h
  exact right_any p c o w
theorem rright_at (p c : Int) (o b : Bool) (h : rightB p c = b) (w : World) :
    Calls Try.prog 10 #[.agg #[.int .i64 p, .int .i64 c, .bool o]] w fun e w' => e = .returned (.bool b) ∧ Below w.heap.size w w' := by
  subst h
  exact rright_any p c o w

set_option maxHeartbeats 1600000 in
theorem alive_any (w : World) : Calls Try.prog 7 #[] w fun e w' => e = .returned (.bool true) ∧ Below w.heap.size w w' := by
  go_enter Try.func7, Try.ntmps7
  go_wp2_with (first
    | (go_at_call_of 11 (Value.agg #[.int .i64 2, .int .i64 1, .bool false]); refine (step_at 2 1 false 2 2 true true (by omega) (by decide) _).mono ?_; rintro e w1 ⟨rfl, hb1⟩; have HB1 := Lib.hid hb1)
    | (go_at_call_of 11 (Value.agg #[.int .i64 2, .int .i64 2, .bool true]); refine (step_at 2 2 true 2 1 true false (by omega) (by decide) _).mono ?_; rintro e w2 ⟨rfl, hb2⟩; have HB2 := Lib.hid hb2)
    | (go_at_call_of 11 (Value.agg #[.int .i64 2, .int .i64 1, .bool true]); refine (step_at 2 1 true 2 2 false true (by omega) (by decide) _).mono ?_; rintro e w3 ⟨rfl, hb3⟩; have HB3 := Lib.hid hb3; have A1 : Hid (ToneAt (w1.alloc (.cells #[.int .i64 2, .int .i64 2, .bool true] 25)) w1.heap.size 2 2 true) := Whole.fresh _ _ [_, _, _]; have A3 := Lib.hid (((A1.out.next HB2.out).beside (.cells #[.int .i64 2, .int .i64 1, .bool true] 25)).next hb3); obtain ⟨c0, c1, c2, -, -, -⟩ := A3.out.cells; have hl1 := A3.out.inside; clear hb1 hb2 hb3))
  go_ret
  exact ⟨rfl, (below_next (((HB1.out).alloc HB1.out.size _).trans (HB2.out.mono (by have := HB1.out.size; simp; omega))) (((Below.refl _ w2).alloc (Nat.le_refl _) _).trans (HB3.out.mono (by simp)))).alloc (by have h1 := HB1.out.size; have h2 := HB2.out.size; have h3 := HB3.out.size; simp at h2 h3; omega) _⟩

set_option maxHeartbeats 1600000 in
theorem names_any (w : World) : Calls Try.prog 3 #[] w fun e w' => e = .returned (.bool true) ∧ Below w.heap.size w w' := by
  go_enter Try.func3, Try.ntmps3
  go_wp2_with (first
    | (go_at_call 7; refine (alive_any _).mono ?_; rintro e w1 ⟨rfl, hb⟩; have H1 := Lib.hid hb; clear hb)
    | (go_at_call_of 8 (Value.agg #[.int .i64 1023, .int .i64 1023, .bool false]); refine (right_at 1023 1023 false true (by decide) _).mono ?_; rintro e w2 ⟨rfl, hb⟩; have H2 := Lib.hid (below_next H1.out hb); clear hb)
    | (go_at_call_of 8 (Value.agg #[.int .i64 1024, .int .i64 0, .bool false]); refine (right_at 1024 0 false false (by decide) _).mono ?_; rintro e w3 ⟨rfl, hb⟩; have H3 := Lib.hid (below_next H2.out hb); clear hb)
    | (go_at_call 8; refine (right_at 0 (-1) false false (by decide) _).mono ?_; rintro e w4 ⟨rfl, hb⟩; have H4 := Lib.hid (below_next H3.out hb); clear hb)
    | (go_at_call_of 9 (Value.agg #[.int .i64 1, .int .i64 9, .bool false]); refine (until_any 1 9 false 0 rfl _).mono ?_; rintro e w5 ⟨rfl, hb⟩; have H5 := Lib.hid (below_next H4.out hb); clear hb)
    | (go_at_call_of 9 (Value.agg #[.int .i64 5, .int .i64 3, .bool false]); refine (until_any 5 3 false 3 rfl _).mono ?_; rintro e w6 ⟨rfl, hb⟩; have H6 := Lib.hid (below_next H5.out hb); clear hb))
  go_ret
  exact ⟨rfl, H6.out⟩

end Go.Proofs.Ytbhbhlnbefdlaaa
