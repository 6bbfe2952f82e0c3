/-
  The law RegsBack returns true for any registers and numbers, and writes nothing that was there.
-/
import Derived.Test.YthehpkhhoimecaaDoorRegTurn
namespace Go.Proofs.YthehpkhhoimecaaDoor
open Go.RowKit

theorem Rg.pair_setPair (r : Rg) (k v : Nat) (hk : k < 7) : (r.setPair (k : Int) v).pair (k : Int) = v := by
  match k, hk with
  | 0, _ | 1, _ | 2, _ | 4, _ => simp [Rg.setPair, Rg.pair]; omega
  | 3, _ | 5, _ | 6, _ => simp [Rg.setPair, Rg.pair]
theorem Rg.setPair_back (r : Rg) (hr : r.Fits) (k v : Nat) (hk : k < 7) : (r.setPair (k : Int) v).setPair (k : Int) (r.pair (k : Int)) = r := by
  have := hr.a; have := hr.f; have := hr.b; have := hr.c; have := hr.d; have := hr.e; have := hr.h; have := hr.l
  match k, hk with
  | 0, _ =>
    have e1 : (r.b * 256 + r.c) / 256 = r.b := by omega
    have e2 : (r.b * 256 + r.c) % 256 = r.c := by omega
    simp [Rg.setPair, Rg.pair, e1, e2]
  | 1, _ =>
    have e1 : (r.d * 256 + r.e) / 256 = r.d := by omega
    have e2 : (r.d * 256 + r.e) % 256 = r.e := by omega
    simp [Rg.setPair, Rg.pair, e1, e2]
  | 2, _ =>
    have e1 : (r.h * 256 + r.l) / 256 = r.h := by omega
    have e2 : (r.h * 256 + r.l) % 256 = r.l := by omega
    simp [Rg.setPair, Rg.pair, e1, e2]
  | 4, _ =>
    have e1 : (r.a * 256 + r.f) / 256 = r.a := by omega
    have e2 : (r.a * 256 + r.f) % 256 = r.f := by omega
    simp [Rg.setPair, Rg.pair, e1, e2]
  | 3, _ | 5, _ | 6, _ => simp [Rg.setPair, Rg.pair]
theorem met_two (f m : Nat) (b1 b2 : Bool) (hm : m % 2 = 0) (h1 : rgMet f m = b1) (h2 : rgMet f (m + 1) = b2) : (b1 != b2) = true := by
  have e1 : (m + 1) / 2 = m / 2 := by omega
  have e2 : (m + 1) % 2 = 1 := by omega
  rw [← h1, ← h2, rgMet, rgMet, e1, e2, hm]
  cases nBit (askBit (m / 2)) f <;> rfl
set_option maxRecDepth 100000 in
set_option maxHeartbeats 3200000 in
theorem back_any (r : Rg) (hr : r.Fits) (n : Int) (v : Nat) (hv : v < 65536) (w : World) (hT : Tab w) : Calls Tryd.prog 4 #[r.v, .int .i64 n, .int .u16 (v : Int)] w fun e w' => e = .returned (.bool true) ∧ Below w.heap.size w w' := by
  obtain ⟨T, k, e1, hk, k1, ht⟩ := tmod_ways n 7 (by omega)
  have e1 : n.tmod 7 = T := e1
  clear hk
  obtain ⟨s, hs⟩ : ∃ s, Hid (r.setPair (k : Int) v = s) := ⟨_, rfl⟩
  have hsf : s.Fits := by rw [← hs.out]; exact r.setPair_fits hr _ _ hv
  have HP : Hid (s.pair (k : Int) = v) := by show _ = _; rw [← hs.out]; exact r.pair_setPair k v k1
  obtain ⟨P, hP⟩ : ∃ P, Hid (r.pair (k : Int) = P) := ⟨_, rfl⟩
  have P1 : P < 65536 := by rw [← hP.out]; exact r.pair_lt hr _
  have HB : Hid (s.setPair (k : Int) P = r) := by show _ = _; rw [← hs.out, ← hP.out]; exact r.setPair_back hr k v k1
  obtain ⟨q, hq⟩ : ∃ q, Hid (r.swap true = q) := ⟨_, rfl⟩
  obtain ⟨u, hu⟩ : ∃ u, Hid (q.swap false = u) := ⟨_, rfl⟩
  have HU : Hid (u.swap false = q) := by show _ = _; rw [← hu.out]; rfl
  have HQQ : Hid (q.swap true = r) := by show _ = _; rw [← hq.out]; rfl
  obtain ⟨c0, hc0⟩ : ∃ c0 : Int, c0 = 2 * (k : Int) := ⟨_, rfl⟩
  obtain ⟨m, hm⟩ : ∃ m, m = 2 * k % 8 := ⟨_, rfl⟩
  have HK0 : Hid (c0 % 8 = (m : Int)) := by show _ = _; omega
  have HK1 : Hid ((c0 + 1) % 8 = ((m + 1 : Nat) : Int)) := by show _ = _; omega
  obtain ⟨b1, hb1⟩ : ∃ b, Hid (rgMet r.f m = b) := ⟨_, rfl⟩
  obtain ⟨b2, hb2⟩ : ∃ b, Hid (rgMet r.f (m + 1) = b) := ⟨_, rfl⟩
  have HBB : Hid ((!b1 == b2) = true) := by
    have hb : (b1 != b2) = true := met_two r.f m b1 b2 (by omega) hb1.out hb2.out
    show _ = _
    revert hb; cases b1 <;> cases b2 <;> decide
  have w1 : IntKind.i64.wrap (2 * (k : Int)) = c0 := by rw [hc0, IntKind.wrap_i64]; omega
  have w2 : IntKind.i64.wrap (c0 + 1) = c0 + 1 := by rw [IntKind.wrap_i64]; omega
  have c1 : c0 < 14 := by omega
  have c2 : 0 ≤ c0 := by omega
  have HV := Lib.hid (show Unit → v < 65536 from fun _ => hv)
  have HP1 := Lib.hid (show Unit → P < 65536 from fun _ => P1)
  have HR := Lib.hid hr
  have HS := Lib.hid hsf
  have HT := Lib.hid hT
  clear hr hT hsf hv P1 k1 hm
  have tg3 : Hid True := trivial
  rcases ht with ⟨t1, t2⟩ | ⟨t1, t2⟩
  · skip
    have t4 : T + 7 = (k : Int) := t2
    have t3 : IntKind.i64.wrap (T + 7) = T + 7 := by rw [IntKind.wrap_i64]; omega
    rw [← t4] at hs HP hP HB w1
    clear t2 t4 hc0
    have HM := Lib.hid (Own.start w)
    have tg1 : Hid True := trivial
    have tg2 : Hid True := trivial
    go_enter Tryd.func4, Tryd.ntmps4
    go_upto_region 8 with (first
      | ((with_reducible apply own_box HM); exact rfl; (conv => lhs; whnf); exact rfl; exact rfl; (first | (clear tg1; intro w' g1 HM') | (clear tg2; intro w' g2 HM') | (clear tg3; intro w' g3 HM') | (clear tg4; intro w' g4 HM') | intro w' g' HM'); clear HM; have HM := HM'; clear HM'; all_goals skip) | ((with_reducible apply own_alloc HM); exact rfl; (with_reducible exact zeroR); exact rfl; (first | (clear tg1; intro w' g1 HM') | (clear tg2; intro w' g2 HM') | (clear tg3; intro w' g3 HM') | (clear tg4; intro w' g4 HM') | intro w' g' HM'); clear HM; have HM := HM'; clear HM'; all_goals skip) | ((with_reducible apply own_row HM); exact rfl; exact rfl; exact aggR; (first | with_reducible exact .z | with_reducible exact .s .z | with_reducible exact .s (.s .z) | with_reducible exact .s (.s (.s .z)) | with_reducible exact .s (.s (.s (.s .z))) | with_reducible exact .s (.s (.s (.s (.s .z))))); exact rfl; (first | exact Rg.cells_length _ | exact rfl); all_goals skip) | ((with_reducible apply own_lay HM); exact rfl; exact rfl; exact rfl; (first | with_reducible exact .z | with_reducible exact .s .z | with_reducible exact .s (.s .z) | with_reducible exact .s (.s (.s .z)) | with_reducible exact .s (.s (.s (.s .z))) | with_reducible exact .s (.s (.s (.s (.s .z))))); (first | with_reducible exact .z | with_reducible exact .s .z | with_reducible exact .s (.s .z) | with_reducible exact .s (.s (.s .z)) | with_reducible exact .s (.s (.s (.s .z))) | with_reducible exact .s (.s (.s (.s (.s .z))))); exact aggR.size; (first | exact Rg.cells_length _ | exact rfl); (first | exact Rg.cells_length _ | exact rfl); (first | exact Rg.one1 _ | exact rfl); exact rfl; exact rfl; intro w' HM'; clear HM; have HM := HM'; clear HM'; all_goals skip)
      | (go_at_call 5; (with_reducible refine (regsAlive_any _).mono ?_); rintro e w' ⟨rfl, hb⟩; have HM' := Lib.hid (HM.out.call hb); clear HM hb; have HM := HM'; clear HM')
      | (go_at_call 12; (with_reducible refine (setPair_at r (T + 7) v (HV.out ()) s hs _).mono ?_); rintro e w' ⟨rfl, hb⟩; have HM' := Lib.hid (HM.out.call hb); clear HM hb; have HM := HM'; clear HM')
      | (go_at_call 6; first
        | ((with_reducible refine (swap_any r true q hq _).mono ?_); rintro e w' ⟨rfl, hb⟩; have HM' := Lib.hid (HM.out.call hb); clear HM hb; have HM := HM'; clear HM')
        | ((with_reducible refine (swap_any q false u hu _).mono ?_); rintro e w' ⟨rfl, hb⟩; have HM' := Lib.hid (HM.out.call hb); clear HM hb; have HM := HM'; clear HM')))
    have ES := Rg.same r
    (refine own_region HM (by kernel_rfl) (by kernel_rfl) ?_; (try simp only [Act.put, List.setIfInBounds_toArray, List.set_cons_zero, List.set_cons_succ]); repeat ((fail_if_success (with_reducible refine wpQuiet_nil ?_)); first | go_big_quiet_skip | (go_big_quiet_want; first | ((with_reducible apply quiet_row); exact rfl; exact aggR; (first | with_reducible exact .z | with_reducible exact .s .z | with_reducible exact .s (.s .z) | with_reducible exact .s (.s (.s .z)) | with_reducible exact .s (.s (.s (.s .z))) | with_reducible exact .s (.s (.s (.s (.s .z))))); (first | exact Rg.cells_length _ | exact rfl); go_big_quiet_op; go_big_quiet_on) | ((with_reducible apply quiet_get); exact rfl; (first | (with_reducible exact oneU8) | (with_reducible exact oneU16) | (with_reducible exact oneBool)); (first | with_reducible exact .z | with_reducible exact .s .z | with_reducible exact .s (.s .z) | with_reducible exact .s (.s (.s .z)) | with_reducible exact .s (.s (.s (.s .z))) | with_reducible exact .s (.s (.s (.s (.s .z))))); exact rfl; go_big_quiet_op; go_big_quiet_on) | ((with_reducible apply quiet_load); exact rfl; (with_reducible exact aggAlt); (first | with_reducible exact .z | with_reducible exact .s .z | with_reducible exact .s (.s .z) | with_reducible exact .s (.s (.s .z)) | with_reducible exact .s (.s (.s (.s .z))) | with_reducible exact .s (.s (.s (.s (.s .z))))); exact Rg.altDrop _; exact Rg.altTake _; go_big_quiet_op; go_big_quiet_on) | ((with_reducible apply quiet_call); exact fun w => rfl; (focus (go_simp; all_goals with_reducible rfl)); (intro wq HQ; first | (with_reducible exact pair_at s HS.out (T + 7) v HP _) | (with_reducible exact pair_at r HR.out (T + 7) P hP _) | (with_reducible exact setPair_at s (T + 7) P (HP1.out ()) r HB _) | (with_reducible exact swap_any u false q HU _) | (with_reducible exact swap_any q true r HQQ _) | (with_reducible exact met_below r.f m c0 HR.out.f HK0 b1 hb1 _ (Tab.own HT HQ)) | (with_reducible exact met_below r.f (m + 1) (c0 + 1) HR.out.f HK1 b2 hb2 _ (Tab.own HT HQ))); go_big_quiet_op; go_big_quiet_on) | (go_big_quiet_op; go_big_quiet_on) | (go_big_quiet_op; refine ⟨_, fun _ _ => rfl, ?_⟩; go_big_quiet_on))))
    refine wpQuiet_nil ?_
    intro w' HM'
    clear HM; have HM := HM'; clear HM'
    go_wp2_with fail
    go_ret
    exact ⟨congrArg (fun z : Bool => (Ending.returned (.bool z) : Ending)) HBB.out, Own.fin HM⟩
  · skip
    subst t2
    clear hc0
    have HM := Lib.hid (Own.start w)
    have tg1 : Hid True := trivial
    have tg2 : Hid True := trivial
    go_enter Tryd.func4, Tryd.ntmps4
    go_upto_region 8 with (first
      | ((with_reducible apply own_box HM); exact rfl; (conv => lhs; whnf); exact rfl; exact rfl; (first | (clear tg1; intro w' g1 HM') | (clear tg2; intro w' g2 HM') | (clear tg3; intro w' g3 HM') | (clear tg4; intro w' g4 HM') | intro w' g' HM'); clear HM; have HM := HM'; clear HM'; all_goals skip) | ((with_reducible apply own_alloc HM); exact rfl; (with_reducible exact zeroR); exact rfl; (first | (clear tg1; intro w' g1 HM') | (clear tg2; intro w' g2 HM') | (clear tg3; intro w' g3 HM') | (clear tg4; intro w' g4 HM') | intro w' g' HM'); clear HM; have HM := HM'; clear HM'; all_goals skip) | ((with_reducible apply own_row HM); exact rfl; exact rfl; exact aggR; (first | with_reducible exact .z | with_reducible exact .s .z | with_reducible exact .s (.s .z) | with_reducible exact .s (.s (.s .z)) | with_reducible exact .s (.s (.s (.s .z))) | with_reducible exact .s (.s (.s (.s (.s .z))))); exact rfl; (first | exact Rg.cells_length _ | exact rfl); all_goals skip) | ((with_reducible apply own_lay HM); exact rfl; exact rfl; exact rfl; (first | with_reducible exact .z | with_reducible exact .s .z | with_reducible exact .s (.s .z) | with_reducible exact .s (.s (.s .z)) | with_reducible exact .s (.s (.s (.s .z))) | with_reducible exact .s (.s (.s (.s (.s .z))))); (first | with_reducible exact .z | with_reducible exact .s .z | with_reducible exact .s (.s .z) | with_reducible exact .s (.s (.s .z)) | with_reducible exact .s (.s (.s (.s .z))) | with_reducible exact .s (.s (.s (.s (.s .z))))); exact aggR.size; (first | exact Rg.cells_length _ | exact rfl); (first | exact Rg.cells_length _ | exact rfl); (first | exact Rg.one1 _ | exact rfl); exact rfl; exact rfl; intro w' HM'; clear HM; have HM := HM'; clear HM'; all_goals skip)
      | (go_at_call 5; (with_reducible refine (regsAlive_any _).mono ?_); rintro e w' ⟨rfl, hb⟩; have HM' := Lib.hid (HM.out.call hb); clear HM hb; have HM := HM'; clear HM')
      | (go_at_call 12; (with_reducible refine (setPair_at r (k : Int) v (HV.out ()) s hs _).mono ?_); rintro e w' ⟨rfl, hb⟩; have HM' := Lib.hid (HM.out.call hb); clear HM hb; have HM := HM'; clear HM')
      | (go_at_call 6; first
        | ((with_reducible refine (swap_any r true q hq _).mono ?_); rintro e w' ⟨rfl, hb⟩; have HM' := Lib.hid (HM.out.call hb); clear HM hb; have HM := HM'; clear HM')
        | ((with_reducible refine (swap_any q false u hu _).mono ?_); rintro e w' ⟨rfl, hb⟩; have HM' := Lib.hid (HM.out.call hb); clear HM hb; have HM := HM'; clear HM')))
    have ES := Rg.same r
    (refine own_region HM (by kernel_rfl) (by kernel_rfl) ?_; (try simp only [Act.put, List.setIfInBounds_toArray, List.set_cons_zero, List.set_cons_succ]); repeat ((fail_if_success (with_reducible refine wpQuiet_nil ?_)); first | go_big_quiet_skip | (go_big_quiet_want; first | ((with_reducible apply quiet_row); exact rfl; exact aggR; (first | with_reducible exact .z | with_reducible exact .s .z | with_reducible exact .s (.s .z) | with_reducible exact .s (.s (.s .z)) | with_reducible exact .s (.s (.s (.s .z))) | with_reducible exact .s (.s (.s (.s (.s .z))))); (first | exact Rg.cells_length _ | exact rfl); go_big_quiet_op; go_big_quiet_on) | ((with_reducible apply quiet_get); exact rfl; (first | (with_reducible exact oneU8) | (with_reducible exact oneU16) | (with_reducible exact oneBool)); (first | with_reducible exact .z | with_reducible exact .s .z | with_reducible exact .s (.s .z) | with_reducible exact .s (.s (.s .z)) | with_reducible exact .s (.s (.s (.s .z))) | with_reducible exact .s (.s (.s (.s (.s .z))))); exact rfl; go_big_quiet_op; go_big_quiet_on) | ((with_reducible apply quiet_load); exact rfl; (with_reducible exact aggAlt); (first | with_reducible exact .z | with_reducible exact .s .z | with_reducible exact .s (.s .z) | with_reducible exact .s (.s (.s .z)) | with_reducible exact .s (.s (.s (.s .z))) | with_reducible exact .s (.s (.s (.s (.s .z))))); exact Rg.altDrop _; exact Rg.altTake _; go_big_quiet_op; go_big_quiet_on) | ((with_reducible apply quiet_call); exact fun w => rfl; (focus (go_simp; all_goals with_reducible rfl)); (intro wq HQ; first | (with_reducible exact pair_at s HS.out (k : Int) v HP _) | (with_reducible exact pair_at r HR.out (k : Int) P hP _) | (with_reducible exact setPair_at s (k : Int) P (HP1.out ()) r HB _) | (with_reducible exact swap_any u false q HU _) | (with_reducible exact swap_any q true r HQQ _) | (with_reducible exact met_below r.f m c0 HR.out.f HK0 b1 hb1 _ (Tab.own HT HQ)) | (with_reducible exact met_below r.f (m + 1) (c0 + 1) HR.out.f HK1 b2 hb2 _ (Tab.own HT HQ))); go_big_quiet_op; go_big_quiet_on) | (go_big_quiet_op; go_big_quiet_on) | (go_big_quiet_op; refine ⟨_, fun _ _ => rfl, ?_⟩; go_big_quiet_on))))
    refine wpQuiet_nil ?_
    intro w' HM'
    clear HM; have HM := HM'; clear HM'
    go_wp2_with fail
    go_ret
    exact ⟨congrArg (fun z : Bool => (Ending.returned (.bool z) : Ending)) HBB.out, Own.fin HM⟩

end Go.Proofs.YthehpkhhoimecaaDoor
