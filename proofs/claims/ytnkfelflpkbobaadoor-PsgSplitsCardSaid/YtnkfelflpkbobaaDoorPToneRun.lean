/-
  Package tone's Run, and the document's, each by one contract: the closed form. Both numbers of the tone from nothing to 1023.
-/
import Derived.Test.YtnkfelflpkbobaaDoorPToneMath
import Derived.StillTailTactics
namespace Go.Proofs.YtnkfelflpkbobaaDoor.tone
open Go.RowKit

theorem below_next {w w1 w2 : World} (h : Below w.heap.size w w1) (hb : Below w1.heap.size w1 w2) : Below w.heap.size w w2 := h.trans (hb.mono h.size)

/-- the block of a tone -/
def ToneAt (w : World) (b : Nat) (p c : Int) (o : Bool) : Prop := Whole w b 23 [.int .i64 p, .int .i64 c, .bool o]
theorem ToneAt.cells {w : World} {b : Nat} {p c : Int} {o : Bool} (h : ToneAt w b p c o) :
    w.cell? ⟨b, 0, none⟩ = some (.int .i64 p) ∧ w.cell? ⟨b, 1, none⟩ = some (.int .i64 c) ∧ w.cell? ⟨b, 2, none⟩ = some (.bool o) ∧ w.frozen? ⟨b, 0, none⟩ = false ∧ w.frozen? ⟨b, 1, none⟩ = false ∧ w.frozen? ⟨b, 2, none⟩ = false :=
  ⟨h.at_ 0, h.at_ 1, h.at_ 2, h.free 0, h.free 1, h.free 2⟩
theorem ToneAt.next {w w' : World} {b : Nat} {p c : Int} {o : Bool} (h : ToneAt w b p c o) (hb : Below w.heap.size w w') : ToneAt w' b p c o := h.under hb (Whole.inside h)
theorem ToneAt.beside {w : World} {b : Nat} {p c : Int} {o : Bool} (h : ToneAt w b p c o) (x : Obj) : ToneAt (w.alloc x) b p c o := Whole.beside h x
theorem ToneAt.other {w : World} {b : Nat} {p c : Int} {o : Bool} (h : ToneAt w b p c o) {a : Addr} (ha : b ≠ a.block) (u : Value) : ToneAt (w.setCell a u) b p c o := Whole.other h ha u
theorem ToneAt.put3 {w : World} {b : Nat} {p c : Int} {o : Bool} (h : ToneAt w b p c o) (p' c' : Int) (o' : Bool) :
    ToneAt (((w.setCell ⟨b, 0, none⟩ (.int .i64 p')).setCell ⟨b, 1, none⟩ (.int .i64 c')).setCell ⟨b, 2, none⟩ (.bool o')) b p' c' o' := ((Whole.put h 0 (.int .i64 p')).put 1 (.int .i64 c')).put 2 (.bool o')
theorem run_stay (p c : Int) (o : Bool) (s k : Int) (h : k = s ∨ (k = 0 ∧ s ≤ 0)) : runC p c k = runC p c s ∧ runO p c o k = runO p c o s ∧ runN p c k = runN p c s := by
  rcases h with rfl | ⟨rfl, h⟩
  · exact ⟨rfl, rfl, rfl⟩
  · obtain ⟨a1, a2, a3⟩ := run_zero p c o 0 (by omega)
    obtain ⟨b1, b2, b3⟩ := run_zero p c o s h
    exact ⟨a1.trans b1.symm, a2.trans b2.symm, a3.trans b3.symm⟩

set_option maxHeartbeats 1600000 in
theorem run_few (p c : Int) (o : Bool) (hc : 0 ≤ c) (hc2 : c ≤ 1023) (s : Int) (hs : s < max c 1) (w : World) :
    Calls Tryd.prog 38 #[.agg #[.int .i64 p, .int .i64 c, .bool o], .int .i64 s] w fun e w' =>
      e = .returned (.tuple #[.agg #[.int .i64 p, .int .i64 (runC p c s), .bool (runO p c o s)], .int .i64 (runN p c s)]) ∧ Below w.heap.size w w' := by
  obtain ⟨m, hm⟩ : ∃ m, m = max c 1 := ⟨_, rfl⟩
  obtain ⟨x, hx⟩ : ∃ x, x = max s 0 := ⟨_, rfl⟩
  have e1 : Hid (runC p c s = c - x) := by show _ = _; unfold runC; rw [if_pos hs, hx]
  have e2 : Hid (runO p c o s = o) := by show _ = _; unfold runO; rw [if_pos hs]
  have e3 : Hid (runN p c s = 0) := by show _ = _; unfold runN; rw [if_pos hs]
  have hs' : s < m := by omega
  have x0 : 0 ≤ x := by omega
  have x1 : x ≤ 1023 := by omega
  have H0 : Hid (ToneAt (w.alloc (.cells #[.int .i64 p, .int .i64 c, .bool o] 23)) w.heap.size p c o) := Whole.fresh _ _ [_, _, _]
  have H1 : Hid (ToneAt ((w.alloc (.cells #[.int .i64 p, .int .i64 c, .bool o] 23)).alloc (.cells #[.int .i64 0, .int .i64 0, .bool false] 23)) w.heap.size p c o) := H0.out.beside _
  have H2 : Hid (ToneAt ((w.alloc (.cells #[.int .i64 p, .int .i64 c, .bool o] 23)).alloc (.cells #[.int .i64 0, .int .i64 0, .bool false] 23)) (w.heap.size + 1) 0 0 false) := by
    have h := Whole.fresh (w.alloc (.cells #[.int .i64 p, .int .i64 c, .bool o] 23)) 23 [.int .i64 0, .int .i64 0, .bool false]
    rwa [show (w.alloc (.cells #[.int .i64 p, .int .i64 c, .bool o] 23)).heap.size = w.heap.size + 1 by simp] at h
  have HM := Lib.hid hm
  have HX := Lib.hid hx
  clear hm hx hs
  go_enter Tryd.func38, Tryd.ntmps38
  go_wp2_with (first
    | (go_at_call 43; refine (untilAnew_any p c o m HM.out _).mono ?_; rintro e w1 ⟨rfl, hb⟩; have hz1 : w.heap.size + 1 < w1.heap.size := Nat.lt_of_lt_of_le (by simp) hb.size; have hz2 : w.heap.size < w1.heap.size := Nat.lt_of_succ_lt hz1; have HT1 := Lib.hid (H1.out.next hb); have HT2 := Lib.hid (H2.out.next hb); obtain ⟨k0, k1, k2, g0, g1, g2⟩ := HT1.out.cells; obtain ⟨r0, r1, r2, f0, f1, f2⟩ := HT2.out.cells)
    | (with_reducible refine max_at rfl (.tmp 17) (.const (.int .i64 0)) _ rfl .i64 .i64 s 0 rfl rfl x HX.out ?_))
  rw [e1.out, e2.out, e3.out]
  refine bodyPost_ret (v := .tuple #[.agg #[.int .i64 p, .int .i64 (c - x), .bool o], .int .i64 0]) (by simp [results, Tryd.results38, go_sem, r0, r1, r2]) rfl ⟨rfl, ?_⟩
  have hb' : Below w.heap.size w w1 := (((Below.refl _ w).alloc (Nat.le_refl _) _).alloc (by simp) _).trans (hb.mono (by simp; omega))
  (repeat' (first | with_reducible exact hb' | with_reducible apply Below.setCell | with_reducible apply Below.alloc)) <;> (first | (simp; done) | (simp; omega))

set_option maxHeartbeats 1600000 in
theorem run_still (p c : Int) (o : Bool) (hp : 0 ≤ p) (hp2 : p < 2) (s : Int) (hs : max c 1 ≤ s) (w : World) :
    Calls Tryd.prog 38 #[.agg #[.int .i64 p, .int .i64 c, .bool o], .int .i64 s] w fun e w' =>
      e = .returned (.tuple #[.agg #[.int .i64 p, .int .i64 (runC p c s), .bool (runO p c o s)], .int .i64 (runN p c s)]) ∧ Below w.heap.size w w' := by
  obtain ⟨m, hm⟩ : ∃ m, m = max c 1 := ⟨_, rfl⟩
  have e1 : Hid (runC p c s = 1) := by show _ = _; unfold runC; rw [if_neg (by omega), if_pos hp2]
  have e2 : Hid (runO p c o s = true) := by show _ = _; unfold runO; rw [if_neg (by omega), if_pos hp2]
  have e3 : Hid (runN p c s = 0) := by show _ = _; unfold runN; rw [if_neg (by omega), if_pos hp2]
  have E1 : Hid (nextC p 1 = 1) := by show _ = _; unfold nextC; rw [if_neg (by omega)]; split <;> omega
  have E2 : Hid (nextO p 1 o = true) := by show _ = _; unfold nextO; rw [if_neg (by omega), if_pos hp2]
  have E3 : Hid (turns p 1 = false) := by show _ = _; unfold turns; simp; omega
  have hs' : m ≤ s := by omega
  have H0 : Hid (ToneAt (w.alloc (.cells #[.int .i64 p, .int .i64 c, .bool o] 23)) w.heap.size p c o) := Whole.fresh _ _ [_, _, _]
  have H1 : Hid (ToneAt ((w.alloc (.cells #[.int .i64 p, .int .i64 c, .bool o] 23)).alloc (.cells #[.int .i64 0, .int .i64 0, .bool false] 23)) w.heap.size p c o) := H0.out.beside _
  have H2 : Hid (ToneAt ((w.alloc (.cells #[.int .i64 p, .int .i64 c, .bool o] 23)).alloc (.cells #[.int .i64 0, .int .i64 0, .bool false] 23)) (w.heap.size + 1) 0 0 false) := by
    have h := Whole.fresh (w.alloc (.cells #[.int .i64 p, .int .i64 c, .bool o] 23)) 23 [.int .i64 0, .int .i64 0, .bool false]
    rwa [show (w.alloc (.cells #[.int .i64 p, .int .i64 c, .bool o] 23)).heap.size = w.heap.size + 1 by simp] at h
  have HM := Lib.hid hm
  clear hm hs
  go_enter Tryd.func38, Tryd.ntmps38
  go_wp2_with (first
    | (go_at_call 43; refine (untilAnew_any p c o m HM.out _).mono ?_; rintro e w1 ⟨rfl, hb⟩; have hz1 : w.heap.size + 1 < w1.heap.size := Nat.lt_of_lt_of_le (by simp) hb.size; have hz2 : w.heap.size < w1.heap.size := Nat.lt_of_succ_lt hz1; have HT1 := Lib.hid (H1.out.next hb); have HT2 := Lib.hid (H2.out.next hb); obtain ⟨k0, k1, k2, g0, g1, g2⟩ := HT1.out.cells; obtain ⟨r0, r1, r2, f0, f1, f2⟩ := HT2.out.cells)
    | (go_at_call 29; refine (step_any p 1 o (by omega) _).mono ?_; rw [E1.out, E2.out, E3.out]; rintro e w2 ⟨rfl, hb2⟩; have hz3 : w.heap.size + 1 < w2.heap.size := Nat.lt_of_lt_of_le hz1 (by have h := hb2.size; simpa using h); have hz4 : w.heap.size < w2.heap.size := Nat.lt_of_succ_lt hz3; have HU1 : Hid (ToneAt w2 w.heap.size p 1 o) := ToneAt.next (Whole.put HT1.out 1 (.int .i64 1)) hb2; have HU2 : Hid (ToneAt w2 (w.heap.size + 1) 0 0 false) := ToneAt.next (HT2.out.other (by simp) _) hb2; obtain ⟨l0, l1, l2, i0, i1, i2⟩ := HU1.out.cells; obtain ⟨q0, q1, q2, j0, j1, j2⟩ := HU2.out.cells))
  have hb' : Below w.heap.size w w1 := (((Below.refl _ w).alloc (Nat.le_refl _) _).alloc (by simp) _).trans (hb.mono (by simp; omega))
  have hb3 : Below w.heap.size w w2 := (hb'.setCell (p := ⟨w.heap.size, 1, none⟩) (Nat.le_refl _) (.int .i64 1)).trans (hb2.mono (by simp; omega))
  rw [e1.out, e2.out, e3.out]
  refine bodyPost_ret (v := .tuple #[.agg #[.int .i64 p, .int .i64 1, .bool true], .int .i64 0]) (by simp [results, Tryd.results38, go_sem, q0, q1, q2]) rfl ⟨rfl, ?_⟩
  (repeat' (first | with_reducible exact hb3 | with_reducible apply Below.setCell | with_reducible apply Below.alloc)) <;> (first | (simp; done) | (simp; omega))

set_option maxHeartbeats 1600000 in
theorem run_turns (p c : Int) (o : Bool) (hp : 2 ≤ p) (hp2 : p ≤ 1023) (hc : 0 ≤ c) (hc2 : c ≤ 1023) (s : Int) (hs : max c 1 ≤ s) (hs2 : s ≤ 1099511627776) (w : World) :
    Calls Tryd.prog 38 #[.agg #[.int .i64 p, .int .i64 c, .bool o], .int .i64 s] w fun e w' =>
      e = .returned (.tuple #[.agg #[.int .i64 p, .int .i64 (runC p c s), .bool (runO p c o s)], .int .i64 (runN p c s)]) ∧ Below w.heap.size w w' := by
  obtain ⟨m, hm⟩ : ∃ m, m = max c 1 := ⟨_, rfl⟩
  obtain ⟨R, hR⟩ : ∃ R, R = (s - m) % p := ⟨_, rfl⟩
  have e1 : Hid (runC p c s = p - R) := by show _ = _; unfold runC; rw [if_neg (by omega), if_neg (by omega), hR, hm]
  have e2 : Hid (runO p c o s = if (s - m) / p % 2 = 1 then o else !o) := by show _ = _; unfold runO; rw [if_neg (by omega), if_neg (by omega), hm]
  have e3 : Hid (runN p c s = 1 + (s - m) / p) := by show _ = _; unfold runN; rw [if_neg (by omega), if_neg (by omega), hm]
  have E1 : Hid (nextC p 1 = p) := by show _ = _; unfold nextC; rw [if_neg (by omega), if_neg (by omega)]
  have E2 : Hid (nextO p 1 o = !o) := by show _ = _; unfold nextO; rw [if_neg (by omega), if_neg (by omega)]
  have E3 : Hid (turns p 1 = true) := by show _ = _; unfold turns; simp; omega
  have hs' : m ≤ s := by omega
  have m1 : 1 ≤ m := by omega
  have r0 : 0 ≤ s - m := by omega
  have r1 : s - m ≤ 1099511627776 := by omega
  have R0 : 0 ≤ R := by rw [hR]; exact Int.emod_nonneg _ (by omega)
  have R1 : R < p := by rw [hR]; exact Int.emod_lt_of_pos _ (by omega)
  have q0 : 0 ≤ (s - m) / p := Int.ediv_nonneg r0 (by omega)
  have q1 : (s - m) / p ≤ 1099511627776 := Int.le_trans (Int.ediv_le_self _ r0) r1
  have H0 : Hid (ToneAt (w.alloc (.cells #[.int .i64 p, .int .i64 c, .bool o] 23)) w.heap.size p c o) := Whole.fresh _ _ [_, _, _]
  have H1 : Hid (ToneAt ((w.alloc (.cells #[.int .i64 p, .int .i64 c, .bool o] 23)).alloc (.cells #[.int .i64 0, .int .i64 0, .bool false] 23)) w.heap.size p c o) := H0.out.beside _
  have H2 : Hid (ToneAt ((w.alloc (.cells #[.int .i64 p, .int .i64 c, .bool o] 23)).alloc (.cells #[.int .i64 0, .int .i64 0, .bool false] 23)) (w.heap.size + 1) 0 0 false) := by
    have h := Whole.fresh (w.alloc (.cells #[.int .i64 p, .int .i64 c, .bool o] 23)) 23 [.int .i64 0, .int .i64 0, .bool false]
    rwa [show (w.alloc (.cells #[.int .i64 p, .int .i64 c, .bool o] 23)).heap.size = w.heap.size + 1 by simp] at h
  have HM := Lib.hid hm
  have HR := Lib.hid hR
  have HT : Hid ((s - m).tmod p = R) := by show _ = _; rw [hR]; exact Int.tmod_eq_emod_of_nonneg r0
  have HP : Hid (IntKind.i64.wrap (p - R) = p - R) := by show _ = _; exact IntWalk.i64_in _ (by omega)
  clear hm hs hR
  by_cases hodd : (s - m) / p % 2 = 1
  all_goals
    have HO := Lib.hid hodd
    go_enter Tryd.func38, Tryd.ntmps38
    go_wp2_with (first
      | (go_at_call 43; refine (untilAnew_any p c o m HM.out _).mono ?_; rintro e w1 ⟨rfl, hb⟩; have hz1 : w.heap.size + 1 < w1.heap.size := Nat.lt_of_lt_of_le (by simp) hb.size; have hz2 : w.heap.size < w1.heap.size := Nat.lt_of_succ_lt hz1; have HT1 := Lib.hid (H1.out.next hb); have HT2 := Lib.hid (H2.out.next hb); obtain ⟨k0, k1, k2, g0, g1, g2⟩ := HT1.out.cells; obtain ⟨r0, r1, r2, f0, f1, f2⟩ := HT2.out.cells)
      | (go_at_call 29; refine (step_any p 1 o (by omega) _).mono ?_; rw [E1.out, E2.out, E3.out]; rintro e w2 ⟨rfl, hb2⟩; have hz3 : w.heap.size + 1 < w2.heap.size := Nat.lt_of_lt_of_le hz1 (by have h := hb2.size; simpa using h); have hz4 : w.heap.size < w2.heap.size := Nat.lt_of_succ_lt hz3; have HU1 : Hid (ToneAt w2 w.heap.size p 1 o) := ToneAt.next (Whole.put HT1.out 1 (.int .i64 1)) hb2; have HU2 : Hid (ToneAt w2 (w.heap.size + 1) 0 0 false) := ToneAt.next (HT2.out.other (by simp) _) hb2; obtain ⟨l0, l1, l2, i0, i1, i2⟩ := HU1.out.cells; obtain ⟨q0, q1, q2, j0, j1, j2⟩ := HU2.out.cells))
    have hb' : Below w.heap.size w w1 := (((Below.refl _ w).alloc (Nat.le_refl _) _).alloc (by simp) _).trans (hb.mono (by simp; omega))
    have hb3 : Below w.heap.size w w2 := (hb'.setCell (p := ⟨w.heap.size, 1, none⟩) (Nat.le_refl _) (.int .i64 1)).trans (hb2.mono (by simp; omega))
    have HV1 := HU1.out.put3 p p (!o)
    have HV2 := ((HU2.out.other (a := ⟨w.heap.size, 0, none⟩) (by simp) (.int .i64 p)).other (a := ⟨w.heap.size, 1, none⟩) (by simp) (.int .i64 p)).other (a := ⟨w.heap.size, 2, none⟩) (by simp) (.bool (!o))
    have HV3 : Below w.heap.size w (((w2.setCell ⟨w.heap.size, 0, none⟩ (.int .i64 p)).setCell ⟨w.heap.size, 1, none⟩ (.int .i64 p)).setCell ⟨w.heap.size, 2, none⟩ (.bool (!o))) := ((hb3.setCell (Nat.le_refl _) _).setCell (Nat.le_refl _) _).setCell (Nat.le_refl _) _
    have hz5 : w.heap.size + 1 < (((w2.setCell ⟨w.heap.size, 0, none⟩ (.int .i64 p)).setCell ⟨w.heap.size, 1, none⟩ (.int .i64 p)).setCell ⟨w.heap.size, 2, none⟩ (.bool (!o))).heap.size := by simpa using hz3
    obtain ⟨W2, hW2⟩ : ∃ W2, W2 = (((w2.setCell ⟨w.heap.size, 0, none⟩ (.int .i64 p)).setCell ⟨w.heap.size, 1, none⟩ (.int .i64 p)).setCell ⟨w.heap.size, 2, none⟩ (.bool (!o))) := ⟨_, rfl⟩
    rw [← hW2] at HV1 HV2 HV3 hz5 ⊢
    obtain ⟨W3, hW3⟩ : ∃ W3, W3 = W2.drew := ⟨_, rfl⟩
    have KV1 : Hid (ToneAt W3 w.heap.size p p (!o)) := by rw [hW3]; exact HV1
    have KV2 : Hid (ToneAt W3 (w.heap.size + 1) 0 0 false) := by rw [hW3]; exact HV2
    have KV3 : Hid (Below w.heap.size w W3) := by rw [hW3]; exact HV3.drew
    have hz6 : w.heap.size + 1 < W3.heap.size := by rw [hW3]; exact hz5
    clear hW2 HU1 HU2 HT1 HT2 H0 H1 H2 l0 l1 l2 i0 i1 i2 q0 q1 q2 j0 j1 j2 k0 k1 k2 g0 g1 g2 r0 r1 r2 f0 f1 f2 hb hb2 hb' hb3
    obtain ⟨k0, k1, k2, g0, g1, g2⟩ := KV1.out.cells
    obtain ⟨q0, q1, q2, j0, j1, j2⟩ := KV2.out.cells
    have hp0 : ¬ p = 0 := by omega
    have hp1 : (p == 0) = false := by simpa using hp0
    have HT' := HT.out
    have HP' := HP.out
    go_still_tail 8, (by kernel_rfl)
    change wpStill _ _ W2.drew _ _ _
    rw [← hW3]
    have HW3 := Lib.hid hW3
    clear hW3 HV1 HV2 HV3 hz5
    repeat still_step
    refine wpStill_nil ?_
    change wpList _ _ _ _ _ W2.drew
    rw [← HW3.out]
    clear HT' HP'
    go_wp2
    have hb7 := KV3.out
    rw [e1.out, e2.out, e3.out]
  · rw [if_pos HO.out]
    refine bodyPost_ret (v := .tuple #[.agg #[.int .i64 p, .int .i64 (p - R), .bool o], .int .i64 (1 + (s - m) / p)]) (by simp [results, Tryd.results38, go_sem, q0, q1, q2]) rfl ⟨rfl, ?_⟩
    (repeat' (first | with_reducible exact hb7 | with_reducible apply Below.setCell | with_reducible apply Below.alloc)) <;> (first | (simp; done) | (simp; omega))
  · rw [if_neg HO.out]
    refine bodyPost_ret (v := .tuple #[.agg #[.int .i64 p, .int .i64 (p - R), .bool (!o)], .int .i64 (1 + (s - m) / p)]) (by simp [results, Tryd.results38, go_sem, q0, q1, q2]) rfl ⟨rfl, ?_⟩
    (repeat' (first | with_reducible exact hb7 | with_reducible apply Below.setCell | with_reducible apply Below.alloc)) <;> (first | (simp; done) | (simp; omega))

theorem run_any (p c : Int) (o : Bool) (hp : 0 ≤ p) (hp2 : p ≤ 1023) (hc : 0 ≤ c) (hc2 : c ≤ 1023) (s : Int) (hs : s ≤ 1099511627776) (w : World) :
    Calls Tryd.prog 38 #[.agg #[.int .i64 p, .int .i64 c, .bool o], .int .i64 s] w fun e w' =>
      e = .returned (.tuple #[.agg #[.int .i64 p, .int .i64 (runC p c s), .bool (runO p c o s)], .int .i64 (runN p c s)]) ∧ Below w.heap.size w w' := by
  by_cases h1 : s < max c 1
  · exact run_few p c o hc hc2 s h1 w
  · by_cases h2 : p < 2
    · exact run_still p c o hp h2 s (by omega) w
    · exact run_turns p c o (by omega) hp2 hc hc2 s (by omega) hs w

end Go.Proofs.YtnkfelflpkbobaaDoor.tone
