/-
  The document's Same, of two slices that read as the same numbers.
-/
import Derived.Test.YtnkfelflpkbobaaDoorPsgKinds
import Derived.Test.YtnkfelflpkbobaaDoorRowOwn
import Derived.Test.YtnkfelflpkbobaaDoorQuiet
namespace Go.Proofs.YtnkfelflpkbobaaDoor
open Go.RowKit

/-- the slice v reads as zs -/
def Reads (w : World) (v : Value) (zs : List Int) : Prop :=
  ∃ p cap, v = .slice p zs.length cap ∧ (0 < zs.length → ∃ g, p = some ⟨g, 0, none⟩ ∧ ∀ i, i < zs.length → w.cell? ⟨g, i, none⟩ = some (.int .i64 (zs.getD i 0)))
theorem Reads.of_row {w : World} {R : List (Nat × TypeId × List Value)} {v : Value} {zs : List Int} {t : TypeId} (h : RowIs t R v (i64s zs)) (hW : ∀ e ∈ R, Whole w e.1 e.2.1 e.2.2) : Reads w v zs := by
  rcases h with ⟨-, rfl, hz⟩ | ⟨g, cap, cur, rfl, rfl, h1, h2, h3, h4⟩
  · have : zs = [] := by simpa [i64s] using hz
    subst this
    exact ⟨none, 0, rfl, fun h => by cases h⟩
  · rw [i64s_length]
    refine ⟨some ⟨g, 0, none⟩, cap, rfl, fun _ => ⟨g, rfl, fun i hi => ?_⟩⟩
    have hw := hW (g, t, cur) (by simp)
    rw [hw.at_]
    have e : (cur.take (i64s zs).length)[i]? = (i64s zs)[i]? := by rw [h4]
    rw [List.getElem?_take, if_pos (by rw [i64s_length]; exact hi)] at e
    rw [e, i64s_get, List.getElem?_eq_getElem hi, List.getD_eq_getElem?_getD, List.getElem?_eq_getElem hi]
    rfl

theorem Reads.of_owns {w : World} {B n : Nat} {v : Value} {zs : List Int} {t : TypeId} (h : w.ownsRow B t 1 v n (i64s zs)) : Reads w v zs := by
  obtain ⟨hl, ⟨rfl, h0⟩ | ⟨g, cap, cur, rfl, hb, hw, h1, h2, h3, h4⟩⟩ := h
  · have : zs = [] := by
      have := hl; rw [i64s_length, h0] at this
      exact List.eq_nil_of_length_eq_zero (by simpa using this)
    subst this
    exact ⟨none, 0, rfl, fun h => by cases h⟩
  · have hn : zs.length = n := by simpa using hl
    subst hn
    exact Reads.of_row (R := [(g, t, cur.toList)]) (t := t) (.inr ⟨g, cap, cur.toList, rfl, by rw [i64s_length], by rw [i64s_length]; exact h1, h2, by simpa using h3, by simpa using h4⟩) (by
      intro e he
      obtain rfl := List.mem_singleton.1 he
      exact hw)

set_option maxRecDepth 100000 in
set_option maxHeartbeats 1600000 in
theorem same_at (zs : List Int) (hz : zs.length ≤ 100000) (v1 v2 : Value) (w : World) (h1 : Reads w v1 zs) (h2 : Reads w v2 zs) :
    Calls Tryd.prog 21 #[v1, v2] w fun e w' => e = .returned (.bool true) ∧ Below w.heap.size w w' := by
  obtain ⟨pa, ca, rfl, ha⟩ := h1
  obtain ⟨pb, cb, rfl, hb⟩ := h2
  obtain ⟨n, hn⟩ : ∃ n, n = zs.length := ⟨_, rfl⟩
  rw [← hn] at ha hb hz ⊢
  have HA := Lib.hid ha
  have HB := Lib.hid hb
  clear ha hb
  have HM := Lib.hid (Own.start w)
  have hz' : (n : Int) ≤ 100000 := by omega
  go_enter Tryd.func21, Tryd.ntmps21
  go_wp2_with fail
  go_loopw [13] (fun i wr => ∃ k : Nat, k ≤ n ∧ i = .int .i64 k ∧ Hid (Own w wr [])) (fun i _ => n - (intOf i).toNat)
  case atStart => exact ⟨0, by omega, rfl, HM⟩
  case round =>
    clear HM
    obtain ⟨k, hk, rfl, HM⟩ := hrel
    by_cases hlt : k < n
    · obtain ⟨ga, rfl, hca⟩ := HA.out (by omega)
      obtain ⟨gb, rfl, hcb⟩ := HB.out (by omega)
      have c1 := hca k hlt
      have c2 := hcb k hlt
      obtain ⟨z, hzz⟩ : ∃ z, z = zs.getD k 0 := ⟨_, rfl⟩
      rw [← hzz] at c1 c2
      clear hzz hca hcb HA HB
      have hk0 : (0 : Int) ≤ k := by omega
      have hk1 : (k : Int) < n := by omega
      go_wp2_with fail
      (refine own_region HM (by kernel_rfl) (by kernel_rfl) ?_; (try simp only [Act.put, List.setIfInBounds_toArray, List.set_cons_zero, List.set_cons_succ]); repeat ((fail_if_success (with_reducible refine wpQuiet_nil ?_)); first | go_big_quiet_skip | (go_big_quiet_want; first | ((with_reducible apply quiet_old); exact rfl; (first | (with_reducible exact oneInt) | (with_reducible exact oneU8) | (with_reducible exact oneBool) | (with_reducible exact oneU16)); (first | exact c1 | exact c2); exact rfl; go_big_quiet_op; go_big_quiet_on) | (go_big_quiet_op; go_big_quiet_on) | (go_big_quiet_op; refine ⟨_, fun _ _ => rfl, ?_⟩; go_big_quiet_on))))
      refine wpQuiet_nil ?_
      intro w' HM'
      clear HM
      have HM := HM'
      clear HM'
      go_wp2_with fail
      go_roundw
      case rel => exact ⟨k + 1, by omega, by go_num, HM⟩
      case measure => simp [intOf]; omega
    · obtain rfl : k = n := by omega
      go_wp2_with fail
      go_ret
      exact ⟨rfl, Own.fin HM⟩

end Go.Proofs.YtnkfelflpkbobaaDoor
