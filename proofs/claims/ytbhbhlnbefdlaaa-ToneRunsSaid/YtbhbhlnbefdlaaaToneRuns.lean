/-
  The law ToneRuns returns true for every tone and any number of steps, and writes nothing that was there.
-/
import Derived.Test.YtbhbhlnbefdlaaaToneBeats
import Derived.Deep.CutRange
namespace Go.Proofs.Ytbhbhlnbefdlaaa
open Go.RowKit

theorem TOn.go {W0 w w' : World} {b : Nat} {p c : Int} {o : Bool} (h : Hid (TOn W0 w b p c o)) (hb : Below w.heap.size w w') : Hid (TOn W0 w' b p c o) := h.out.next hb

theorem rstep_at (p c : Int) (o : Bool) (hp : 0 ≤ p) (hc : c ≤ 1023) (c' : Int) (o' b : Bool) (h : Hid (nextC p c = c' ∧ nextO p c o = o' ∧ turns p c = b)) (w : World) :
    Calls Try.prog 12 #[.agg #[.int .i64 p, .int .i64 c, .bool o]] w fun e w' =>
      e = .returned (.tuple #[.agg #[.int .i64 p, .int .i64 c', .bool o'], .bool b]) ∧ Below w.heap.size w w' := by
  obtain ⟨rfl, rfl, rfl⟩ := h.out
  exact rstep_any p c o hp hc w
theorem step_to (p c : Int) (o : Bool) (hc : c ≤ 1023) (c' : Int) (o' b : Bool) (h : Hid (nextC p c = c' ∧ nextO p c o = o' ∧ turns p c = b)) (w : World) :
    Calls Try.prog 11 #[.agg #[.int .i64 p, .int .i64 c, .bool o]] w fun e w' =>
      e = .returned (.tuple #[.agg #[.int .i64 p, .int .i64 c', .bool o'], .bool b]) ∧ Below w.heap.size w w' := by
  obtain ⟨rfl, rfl, rfl⟩ := h.out
  exact step_any p c o hc w
theorem rrun_at (p c : Int) (o : Bool) (hp : 0 ≤ p) (hp2 : p ≤ 1023) (hc : 0 ≤ c) (hc2 : c ≤ 1023) (s : Int) (hs : s ≤ 20000) (c' : Int) (o' : Bool) (n : Int) (h : Hid (runC p c s = c' ∧ runO p c o s = o' ∧ runN p c s = n)) (w : World) :
    Calls Try.prog 14 #[.agg #[.int .i64 p, .int .i64 c, .bool o], .int .i64 s] w fun e w' =>
      e = .returned (.tuple #[.agg #[.int .i64 p, .int .i64 c', .bool o'], .int .i64 n]) ∧ Below w.heap.size w w' := by
  obtain ⟨rfl, rfl, rfl⟩ := h.out
  exact rrun_any p c o hp hp2 hc hc2 s hs w

set_option maxRecDepth 100000 in
set_option maxHeartbeats 1600000 in
theorem runs_out (p c : Int) (o : Bool) (s : Int) (B : Bool) (h : rightB p c = B) (hh : B = false ∨ 20000 < s) (w : World) :
    Calls Try.prog 4 #[.agg #[.int .i64 p, .int .i64 c, .bool o], .int .i64 s] w fun e w' => e = .returned (.bool true) ∧ Below w.heap.size w w' := by
  have H0 := Lib.hid (TOn.start w p c o)
  have HR := Lib.hid h
  clear h
  rcases (show B = false ∨ (B = true ∧ 20000 < s) by cases B <;> simp_all) with rfl | ⟨rfl, hs⟩
  all_goals
    clear hh
    go_enter Try.func4, Try.ntmps4
    go_wp2_with (go_at_call 7; refine (alive_any _).mono ?_; rintro e w1 ⟨rfl, hb⟩; have H1 := Lib.hid (H0.out.next hb); obtain ⟨c0, c1, c2⟩ := H1.out.cells; clear hb)
    go_cut [19] from 15 to 19 (fun s19 wx => s19 = .bool false ∧ Hid (TOn w wx w.heap.size p c o))
    case' first =>
      have HD := TOn.go H1 (w' := w1.drew) (Below.refl _ _).drew
      clear H1
      go_region_with (first
        | (go_at_call 8; refine (right_at p c o _ HR.out _).mono ?_; rintro e w2 ⟨rfl, hb⟩; have H2 := TOn.go (W0 := w) (b := w.heap.size) (p := p) (c := c) (o := o) (by assumption) hb; obtain ⟨c0, c1, c2⟩ := H2.out.cells; clear hb)
        | (go_at_call 10; refine (rright_at p c o _ HR.out _).mono ?_; rintro e w3 ⟨rfl, hb⟩; have H3 := TOn.go (W0 := w) (b := w.heap.size) (p := p) (c := c) (o := o) (by assumption) hb; obtain ⟨c0, c1, c2⟩ := H3.out.cells; clear hb))
      all_goals (go_wp2_with fail; go_meet; exact ⟨by simp, by assumption⟩)
    case' rest =>
      obtain ⟨rfl, H4⟩ := hcut
      obtain ⟨c0, c1, c2⟩ := H4.out.cells
      go_wp2_with (go_at_call 10; refine (rright_at p c o _ HR.out _).mono ?_; rintro e w5 ⟨rfl, hb⟩; have H5 := TOn.go (W0 := w) (b := w.heap.size) (p := p) (c := c) (o := o) (by assumption) hb; clear hb)
      go_ret
      exact ⟨rfl, H5.out.2⟩

set_option maxRecDepth 100000 in
set_option maxHeartbeats 3200000 in
theorem runs_in (p c : Int) (o : Bool) (s : Int) (hp : 0 ≤ p) (hp2 : p ≤ 1023) (hc : 0 ≤ c) (hc2 : c ≤ 1023) (hs : s ≤ 20000) (w : World) :
    Calls Try.prog 4 #[.agg #[.int .i64 p, .int .i64 c, .bool o], .int .i64 s] w fun e w' => e = .returned (.bool true) ∧ Below w.heap.size w w' := by
  have H0 := Lib.hid (TOn.start w p c o)
  have HR : Hid (rightB p c = true) := by show _ = _; rw [rightB_iff]; omega
  obtain ⟨C, O, T, HS⟩ : ∃ C O T, Hid (nextC p c = C ∧ nextO p c o = O ∧ turns p c = T) := ⟨_, _, _, rfl, rfl, rfl⟩
  obtain ⟨D, U, N, HN⟩ : ∃ D U N, Hid (runC p c s = D ∧ runO p c o s = U ∧ runN p c s = N) := ⟨_, _, _, rfl, rfl, rfl⟩
  go_enter Try.func4, Try.ntmps4
  go_wp2_with (go_at_call 7; refine (alive_any _).mono ?_; rintro e w1 ⟨rfl, hb⟩; have H1 := Lib.hid (H0.out.next hb); obtain ⟨c0, c1, c2⟩ := H1.out.cells; clear hb)
  go_cut [19] from 15 to 19 (fun s19 wx => s19 = .bool false ∧ Hid (TOn w wx w.heap.size p c o))
  case first =>
    have HD := TOn.go H1 (w' := w1.drew) (Below.refl _ _).drew
    clear H1
    go_region_with (first
      | (go_at_call 8; refine (right_at p c o _ HR.out _).mono ?_; rintro e w2 ⟨rfl, hb⟩; have H2 := TOn.go (W0 := w) (b := w.heap.size) (p := p) (c := c) (o := o) (by assumption) hb; obtain ⟨c0, c1, c2⟩ := H2.out.cells; clear hb)
      | (go_at_call 10; refine (rright_at p c o _ HR.out _).mono ?_; rintro e w3 ⟨rfl, hb⟩; have H3 := TOn.go (W0 := w) (b := w.heap.size) (p := p) (c := c) (o := o) (by assumption) hb; obtain ⟨c0, c1, c2⟩ := H3.out.cells; clear hb))
    all_goals (go_wp2_with fail; go_meet; exact ⟨by simp, by assumption⟩)
  case rest =>
    obtain ⟨rfl, H4⟩ := hcut
    obtain ⟨c0, c1, c2⟩ := H4.out.cells
    go_wp2_with (first
      | (go_at_call 10; refine (rright_at p c o _ HR.out _).mono ?_; rintro e w5 ⟨rfl, hb⟩; have H5 := H4.out.next hb; clear hb c0 c1 c2 H4; have K5 := Lib.hid H5; obtain ⟨c0, c1, c2⟩ := H5.cells; clear H5)
      | (go_at_call 11; refine (step_to p c o hc2 C O T HS _).mono ?_; rintro e w6 ⟨rfl, hb⟩; have K6 := Lib.hid (K5.out.next hb); clear c0 c1 c2 hb; obtain ⟨c0, c1, c2⟩ := K6.out.cells; have l6 := K6.out.inside; have A6 : Hid (ToneAt (w6.alloc (.cells #[.int .i64 p, .int .i64 C, .bool O] 25)) w6.heap.size p C O) := Whole.fresh _ _ [_, _, _])
      | (go_at_call 12; refine (rstep_at p c o hp hc2 C O T HS _).mono ?_; rintro e w7 ⟨rfl, hb⟩; have K7 := Lib.hid ((K6.out.beside _).next hb); clear c0 c1 c2; obtain ⟨c0, c1, c2⟩ := K7.out.cells; have l7 := K7.out.inside; have A7 : Hid (ToneAt (w7.alloc (.cells #[.int .i64 p, .int .i64 C, .bool O] 25)) w7.heap.size p C O) := Whole.fresh _ _ [_, _, _]; have B6 := Lib.hid (A6.out.next hb); clear hb A6)
      | (go_at_call 13; refine (run_at p c o hp hp2 hc hc2 s (by omega) D U N HN _).mono ?_; rintro e w8 ⟨rfl, hb⟩; have K8 := Lib.hid ((K7.out.beside _).next hb); clear c0 c1 c2; obtain ⟨c0, c1, c2⟩ := K8.out.cells; have l8 := K8.out.inside; have A8 : Hid (ToneAt (w8.alloc (.cells #[.int .i64 p, .int .i64 D, .bool U] 25)) w8.heap.size p D U) := Whole.fresh _ _ [_, _, _]; have C6 := Lib.hid ((B6.out.beside (.cells #[.int .i64 p, .int .i64 C, .bool O] 25)).next hb); have B7 := Lib.hid (A7.out.next hb); clear hb A7 B6)
      | (go_at_call 14; refine (rrun_at p c o hp hp2 hc hc2 s hs D U N HN _).mono ?_; rintro e w9 ⟨rfl, hb⟩; have K9 := Lib.hid ((K8.out.beside _).next hb); have D6 := Lib.hid ((C6.out.beside (.cells #[.int .i64 p, .int .i64 D, .bool U] 25)).next hb); have C7 := Lib.hid ((B7.out.beside (.cells #[.int .i64 p, .int .i64 D, .bool U] 25)).next hb); have B8 := Lib.hid (A8.out.next hb); clear c0 c1 c2 hb C6 B7 A8 l6 l7 l8; obtain ⟨a0, a1, a2, -, -, -⟩ := D6.out.cells; obtain ⟨b0, b1, b2, -, -, -⟩ := C7.out.cells; obtain ⟨d0, d1, d2, -, -, -⟩ := B8.out.cells; have l6 := D6.out.inside; have l7 := C7.out.inside; have l8 := B8.out.inside; have hsame := tone_same p C O; have hsame2 := tone_same p D U))
    go_ret
    exact ⟨rfl, (K9.out.beside _).2⟩

theorem runs_any (p c : Int) (o : Bool) (s : Int) (w : World) :
    Calls Try.prog 4 #[.agg #[.int .i64 p, .int .i64 c, .bool o], .int .i64 s] w fun e w' => e = .returned (.bool true) ∧ Below w.heap.size w w' := by
  by_cases h : rightB p c = true
  · by_cases hs : 20000 < s
    · exact runs_out p c o s true h (.inr hs) w
    · rw [rightB_iff] at h
      exact runs_in p c o s h.1 h.2.1 h.2.2.1 h.2.2.2 (by omega) w
  · exact runs_out p c o s false (by simpa using h) (.inl rfl) w

end Go.Proofs.Ytbhbhlnbefdlaaa
