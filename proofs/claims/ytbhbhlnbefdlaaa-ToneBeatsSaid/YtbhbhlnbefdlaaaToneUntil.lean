/-
  The laws ToneUntil and ToneBeats return true for every tone, and write nothing that was there.
-/
import Derived.Test.YtbhbhlnbefdlaaaToneAlive
namespace Go.Proofs.Ytbhbhlnbefdlaaa
open Go.RowKit

/-- the tone's block, behind a world -/
def TOn (W0 w : World) (b : Nat) (p c : Int) (o : Bool) : Prop := ToneAt w b p c o ∧ Below W0.heap.size W0 w
section
variable {W0 w w' : World} {b : Nat} {p c : Int} {o : Bool}
theorem TOn.cells (h : TOn W0 w b p c o) : w.cell? ⟨b, 0, none⟩ = some (.int .i64 p) ∧ w.cell? ⟨b, 1, none⟩ = some (.int .i64 c) ∧ w.cell? ⟨b, 2, none⟩ = some (.bool o) :=
  ⟨Whole.at_ h.1 0, Whole.at_ h.1 1, Whole.at_ h.1 2⟩
theorem TOn.inside (h : TOn W0 w b p c o) : b < w.heap.size := ToneAt.inside h.1
theorem TOn.next (h : TOn W0 w b p c o) (hb : Below w.heap.size w w') : TOn W0 w' b p c o := ⟨ToneAt.next h.1 hb, below_next h.2 hb⟩
theorem TOn.beside (h : TOn W0 w b p c o) (x : Obj) : TOn W0 (w.alloc x) b p c o := h.next ((Below.refl _ _).alloc (Nat.le_refl _) _)
end
theorem TOn.start (w : World) (p c : Int) (o : Bool) : TOn w (w.alloc (.cells #[.int .i64 p, .int .i64 c, .bool o] 25)) w.heap.size p c o :=
  ⟨Whole.fresh w 25 [_, _, _], (Below.refl _ _).alloc (Nat.le_refl _) _⟩

theorem run_at (p c : Int) (o : Bool) (hp : 0 ≤ p) (hp2 : p ≤ 1023) (hc : 0 ≤ c) (hc2 : c ≤ 1023) (s : Int) (hs : s ≤ 1099511627776) (c' : Int) (o' : Bool) (n : Int) (h : Hid (runC p c s = c' ∧ runO p c o s = o' ∧ runN p c s = n)) (w : World) :
    Calls Try.prog 13 #[.agg #[.int .i64 p, .int .i64 c, .bool o], .int .i64 s] w fun e w' =>
      e = .returned (.tuple #[.agg #[.int .i64 p, .int .i64 c', .bool o'], .int .i64 n]) ∧ Below w.heap.size w w' := by
  obtain ⟨rfl, rfl, rfl⟩ := h.out
  exact run_any p c o hp hp2 hc hc2 s hs w

/-- a tone that isn't right: both laws leave at once -/
theorem until_wrong (p c : Int) (o : Bool) (h : rightB p c = false) (w : World) :
    Calls Try.prog 5 #[.agg #[.int .i64 p, .int .i64 c, .bool o]] w fun e w' => e = .returned (.bool true) ∧ Below w.heap.size w w' := by
  have H0 := Lib.hid (TOn.start w p c o)
  have HR := Lib.hid h
  clear h
  go_enter Try.func5, Try.ntmps5
  go_wp2_with (first
    | (go_at_call 7; refine (alive_any _).mono ?_; rintro e w1 ⟨rfl, hb⟩; have H1 := Lib.hid (H0.out.next hb); obtain ⟨c0, c1, c2⟩ := H1.out.cells; clear hb)
    | (go_at_call 8; refine (right_at p c o false HR.out _).mono ?_; rintro e w2 ⟨rfl, hb⟩; have H2 := Lib.hid (H1.out.next hb); clear hb))
  go_ret
  exact ⟨rfl, H2.out.2⟩

set_option maxHeartbeats 1600000 in
theorem until_still (p c : Int) (o : Bool) (hp : 0 ≤ p) (hp2 : p < 2) (hc : 0 ≤ c) (hc2 : c ≤ 1023) (w : World) :
    Calls Try.prog 5 #[.agg #[.int .i64 p, .int .i64 c, .bool o]] w fun e w' => e = .returned (.bool true) ∧ Below w.heap.size w w' := by
  have H0 := Lib.hid (TOn.start w p c o)
  have HR : Hid (rightB p c = true) := by show _ = _; rw [rightB_iff]; omega
  have HU : Hid ((0 : Int) = untilOf p c) := by show _ = _; unfold untilOf; rw [if_pos hp2]
  obtain ⟨C, O, HN⟩ : ∃ C O, Hid (runC p c 100000 = C ∧ runO p c o 100000 = O ∧ runN p c 100000 = 0) := ⟨_, _, rfl, rfl, by unfold runN; split <;> rfl⟩
  go_enter Try.func5, Try.ntmps5
  go_wp2_with (first
    | (go_at_call 7; refine (alive_any _).mono ?_; rintro e w1 ⟨rfl, hb⟩; have H1 := Lib.hid (H0.out.next hb); obtain ⟨c0, c1, c2⟩ := H1.out.cells; clear hb)
    | (go_at_call 8; refine (right_at p c o true HR.out _).mono ?_; rintro e w2 ⟨rfl, hb⟩; have H2 := Lib.hid (H1.out.next hb); obtain ⟨c0, c1, c2⟩ := H2.out.cells; clear hb)
    | (go_at_call 9; refine (until_any p c o 0 HU _).mono ?_; rintro e w3 ⟨rfl, hb⟩; have H3 := Lib.hid (H2.out.next hb); obtain ⟨c0, c1, c2⟩ := H3.out.cells; clear hb)
    | (go_at_call 13; refine (run_at p c o hp (by omega) hc hc2 100000 (by omega) C O 0 HN _).mono ?_; rintro e w4 ⟨rfl, hb⟩; have H4 := Lib.hid (H3.out.next hb); clear hb))
  go_ret
  exact ⟨rfl, (H4.out.beside _).2⟩

set_option maxHeartbeats 1600000 in
theorem until_turns (p c : Int) (o : Bool) (hp : 2 ≤ p) (hp2 : p ≤ 1023) (hc : 0 ≤ c) (hc2 : c ≤ 1023) (w : World) :
    Calls Try.prog 5 #[.agg #[.int .i64 p, .int .i64 c, .bool o]] w fun e w' => e = .returned (.bool true) ∧ Below w.heap.size w w' := by
  have H0 := Lib.hid (TOn.start w p c o)
  have HR : Hid (rightB p c = true) := by show _ = _; rw [rightB_iff]; omega
  obtain ⟨m, hm⟩ : ∃ m, m = max c 1 := ⟨_, rfl⟩
  have HU : Hid (m = untilOf p c) := by show _ = _; unfold untilOf; rw [if_neg (by omega), hm]
  obtain ⟨C, O, HN⟩ : ∃ C O, Hid (runC p c (m - 1) = C ∧ runO p c o (m - 1) = O ∧ runN p c (m - 1) = 0) := ⟨_, _, rfl, rfl, by unfold runN; rw [if_pos (by omega)]⟩
  obtain ⟨C2, HN2⟩ : ∃ C, Hid (runC p c m = C ∧ runO p c o m = !o ∧ runN p c m = 1) := ⟨_, rfl,
    by unfold runO; rw [if_neg (by omega), if_neg (by omega), show m - max c 1 = 0 by omega]; simp, by unfold runN; rw [if_neg (by omega), if_neg (by omega), show m - max c 1 = 0 by omega]; simp⟩
  have m1 : 1 ≤ m := by omega
  have m2 : m ≤ 1023 := by omega
  have hno : ((!o) == o) = false := by cases o <;> rfl
  have hno2 : ((!o) != o) = true := by cases o <;> rfl
  clear hm
  go_enter Try.func5, Try.ntmps5
  go_wp2_with (first
    | (go_at_call 7; refine (alive_any _).mono ?_; rintro e w1 ⟨rfl, hb⟩; have H1 := Lib.hid (H0.out.next hb); obtain ⟨c0, c1, c2⟩ := H1.out.cells; clear hb)
    | (go_at_call 8; refine (right_at p c o true HR.out _).mono ?_; rintro e w2 ⟨rfl, hb⟩; have H2 := Lib.hid (H1.out.next hb); obtain ⟨c0, c1, c2⟩ := H2.out.cells; clear hb)
    | (go_at_call 9; refine (until_any p c o m HU _).mono ?_; rintro e w3 ⟨rfl, hb⟩; have H3 := Lib.hid (H2.out.next hb); obtain ⟨c0, c1, c2⟩ := H3.out.cells; clear hb)
    | (go_at_call_of 13 (Value.int .i64 m); refine (run_at p c o (by omega) hp2 hc hc2 m (by omega) C2 (!o) 1 HN2 _).mono ?_; rintro e w5 ⟨rfl, hb⟩; have H5 := Lib.hid ((H4.out.beside _).next hb); obtain ⟨c0, c1, c2⟩ := H5.out.cells; have l5 := H5.out.inside; clear hb)
    | (go_at_call 13; refine (run_at p c o (by omega) hp2 hc hc2 (m - 1) (by omega) C O 0 HN _).mono ?_; rintro e w4 ⟨rfl, hb⟩; have H4 := Lib.hid (H3.out.next hb); obtain ⟨c0, c1, c2⟩ := H4.out.cells; have l4 := H4.out.inside; clear hb))
  go_ret
  exact ⟨rfl, (H5.out.beside _).2⟩

theorem untils_any (p c : Int) (o : Bool) (w : World) :
    Calls Try.prog 5 #[.agg #[.int .i64 p, .int .i64 c, .bool o]] w fun e w' => e = .returned (.bool true) ∧ Below w.heap.size w w' := by
  by_cases h : rightB p c = true
  · rw [rightB_iff] at h
    by_cases h2 : p < 2
    · exact until_still p c o h.1 h2 h.2.2.1 h.2.2.2 w
    · exact until_turns p c o (by omega) h.2.1 h.2.2.1 h.2.2.2 w
  · exact until_wrong p c o (by simpa using h) w

end Go.Proofs.Ytbhbhlnbefdlaaa
