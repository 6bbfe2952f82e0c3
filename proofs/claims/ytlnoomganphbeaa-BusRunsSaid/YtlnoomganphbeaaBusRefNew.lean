/-
  The document's own New for a bus.
-/
import Derived.Test.YtlnoomganphbeaaBusRefWrite
import Derived.RegionTactic
import Derived.ChangeAlike
namespace Go.Proofs.Ytlnoomganphbeaa
open Go.RowKit

theorem bus0_ram : ramL bus0 = zeros 8192 := by
  unfold ramL bus0 zeros
  rw [List.take_append_of_le_length (by rw [List.length_replicate]; omega), List.take_replicate, Nat.min_eq_left (by omega)]
theorem bus0_pap : papL bus0 = zeros 32768 := by
  unfold papL bus0 zeros
  rw [List.drop_append_of_le_length (by rw [List.length_replicate]; omega), List.drop_replicate, List.take_append_of_le_length (by rw [List.length_replicate]; omega), List.take_replicate, Nat.min_eq_left (by omega)]
theorem ref_fresh {w : World} {r gr ga gp : Nat} {rs : List Int} (hrom : Whole w gr 5 (u8s rs)) (hc : Whole w r 49 [.slice (some ⟨gr, 0, none⟩) rs.length rs.length, .slice (some ⟨ga, 0, none⟩) 8192 8192, .slice (some ⟨gp, 0, none⟩) 32768 32768, .int .u8 0, .int .u8 0, .int .u8 1, .int .u8 2])
    (ha : Whole w ga 5 (u8s (zeros 8192))) (hp : Whole w gp 5 (u8s (zeros 32768))) (h1 : gr ≠ ga) (h2 : gr ≠ gp) (h3 : ga ≠ gp) : RefIn w r gr ga gp bus0 rs := by
  refine ⟨⟨8192, 32768, ?_⟩, hrom, ⟨[], ?_⟩, ⟨[], ?_⟩, bus0_length, bus0_oct, h1, h2, h3⟩
  · rw [bus0_getD, bus0_getD, bus0_getD, bus0_getD]; exact hc
  · rw [bus0_ram, List.append_nil]; exact ha
  · rw [bus0_pap, List.append_nil]; exact hp
theorem made8192 (w : World) : (Instr.makeSlice 29 (.int .i64 8192) (.int .i64 8192)).run Try.prog w = .ok (.slice (some ⟨w.heap.size, 0, none⟩) 8192 8192) (w.alloc (.cells (u8s (zeros 8192)).toArray 5)) := bytes_made 8192 (by omega) w
theorem made32768 (w : World) : (Instr.makeSlice 29 (.int .i64 32768) (.int .i64 32768)).run Try.prog w = .ok (.slice (some ⟨w.heap.size, 0, none⟩) 32768 32768) (w.alloc (.cells (u8s (zeros 32768)).toArray 5)) := bytes_made 32768 (by omega) w

theorem three_new (w : World) (A B C : List Value) (t1 t2 t3 : TypeId) :
    Whole (((w.alloc (.cells A.toArray t1)).alloc (.cells B.toArray t2)).alloc (.cells C.toArray t3)).drew w.heap.size t1 A ∧ Whole (((w.alloc (.cells A.toArray t1)).alloc (.cells B.toArray t2)).alloc (.cells C.toArray t3)).drew (w.heap.size + 1) t2 B ∧
    Whole (((w.alloc (.cells A.toArray t1)).alloc (.cells B.toArray t2)).alloc (.cells C.toArray t3)).drew (w.heap.size + 1 + 1) t3 C ∧ Below w.heap.size w (((w.alloc (.cells A.toArray t1)).alloc (.cells B.toArray t2)).alloc (.cells C.toArray t3)).drew := by
  refine ⟨(((Whole.fresh w t1 A).beside _).beside _).drawn, ?_, ?_, ((((Below.refl _ _).alloc (Nat.le_refl _) _).alloc (by simp) _).alloc (by simp; omega) _).drew⟩
  · have h := (Whole.fresh (w.alloc (.cells A.toArray t1)) t2 B).beside (.cells C.toArray t3)
    have e : (w.alloc (.cells A.toArray t1)).heap.size = w.heap.size + 1 := by simp
    rw [e] at h
    exact h.drawn
  · have h := Whole.fresh ((w.alloc (.cells A.toArray t1)).alloc (.cells B.toArray t2)) t3 C
    have e : ((w.alloc (.cells A.toArray t1)).alloc (.cells B.toArray t2)).heap.size = w.heap.size + 1 + 1 := by simp
    rw [e] at h
    exact h.drawn

set_option maxRecDepth 100000 in
set_option maxHeartbeats 1600000 in
theorem rbnew_any (gr : Nat) (rs : List Int) (L : Nat) (hL : Hid (L = rs.length)) (w : World) (h : Hid (Whole w gr 5 (u8s rs))) :
    Calls Try.prog 15 #[.slice (some ⟨gr, 0, none⟩) L L] w fun e w' => ∃ r ga gp, e = .returned (.pointer (some ⟨r, 0, none⟩)) ∧ RefIn w' r gr ga gp bus0 rs ∧ w.heap.size ≤ r ∧ w.heap.size ≤ ga ∧ w.heap.size ≤ gp ∧ Below w.heap.size w w' := by
  have m1 := made8192
  have m2 := made32768
  go_enter Try.func15, Try.ntmps15
  go_wp2_with fail
  go_region
  all_goals go_wp2_with fail
  all_goals go_ret
  · obtain ⟨h1, h2, h3, h4⟩ := three_new w (u8s (zeros 8192)) (u8s (zeros 32768)) [.slice (some ⟨gr, 0, none⟩) L L, .slice (some ⟨w.heap.size, 0, none⟩) 8192 8192, .slice (some ⟨w.heap.size + 1, 0, none⟩) 32768 32768, .int .u8 0, .int .u8 0, .int .u8 1, .int .u8 2] 5 5 49
    have hg := h.out.inside
    refine ⟨_, w.heap.size, w.heap.size + 1, rfl, ref_fresh (h.out.under h4 hg) (by rw [← hL.out]; exact h3) h1 h2 (by omega) (by omega) (by omega), by omega, by omega, by omega, h4⟩
  · obtain ⟨h1, h2, h3, h4⟩ := three_new w (u8s (zeros 32768)) (u8s (zeros 8192)) [.slice (some ⟨gr, 0, none⟩) L L, .slice (some ⟨w.heap.size + 1, 0, none⟩) 8192 8192, .slice (some ⟨w.heap.size, 0, none⟩) 32768 32768, .int .u8 0, .int .u8 0, .int .u8 1, .int .u8 2] 5 5 49
    have hg := h.out.inside
    refine ⟨_, w.heap.size + 1, w.heap.size, rfl, ref_fresh (h.out.under h4 hg) (by rw [← hL.out]; exact h3) h2 h1 (by omega) (by omega) (by omega), by omega, by omega, by omega, h4⟩

end Go.Proofs.Ytlnoomganphbeaa
