/-
  plain, split, Pattern of package names.
-/
import Derived.Test.YtaiceidmcelapaaDoorNamMove
import Derived.Test.YtaiceidmcelapaaDoorNamLast
import Derived.Test.YtaiceidmcelapaaDoorNamBits
import Derived.Test.YtaiceidmcelapaaDoorNamRare
set_option linter.unusedSimpArgs false
set_option linter.unusedVariables false
namespace Go.Proofs.YtaiceidmcelapaaDoor
open Go.RowKit

set_option maxRecDepth 100000 in
set_option maxHeartbeats 800000 in
theorem plain_0 (y z p q : Nat) (hy : y < 8) (hz : z < 8) (hp4 : p < 4) (hq : q < 2) (b : Tx) (hp : b ∈ pairs) (w : World) (hTab : Tabs w) : Calls Tryd.prog 18 #[.agg #[.int .i64 0, .int .i64 (y : Int), .int .i64 (z : Int), .int .i64 (p : Int), .int .i64 (q : Int)], .string ⟨(b).toArray⟩] w fun e w' => e = .returned (.string ⟨(cPlain 0 y z p q b).toArray⟩) ∧ Below w.heap.size w w' := by
  have hT : Hid (Tabs w) := hTab
  clear hTab
  have HM := Lib.hid (Own.start w)
  have tg1 : Hid True := trivial
  go_enter Tryd.func18, Tryd.ntmps18
  go_wp2_with (first
    | ((with_reducible apply own_box HM); exact rfl; (conv => lhs; whnf); exact rfl; exact rfl; (first | (clear tg1; intro w' g1 HM') | (clear tg2; intro w' g2 HM') | (clear tg3; intro w' g3 HM') | (clear tg4; intro w' g4 HM') | intro w' g' HM'); clear HM; have HM := HM'; clear HM'; all_goals skip) | ((with_reducible apply own_alloc HM); exact rfl; (first | (with_reducible exact zeroP)); exact rfl; (first | (clear tg1; intro w' g1 HM') | (clear tg2; intro w' g2 HM') | (clear tg3; intro w' g3 HM') | (clear tg4; intro w' g4 HM') | intro w' g' HM'); clear HM; have HM := HM'; clear HM'; all_goals skip) | ((with_reducible apply own_cell HM); exact rfl; exact rfl; (first | (with_reducible exact oneInt)); (first | with_reducible exact .z | with_reducible exact .s .z | with_reducible exact .s (.s .z) | with_reducible exact .s (.s (.s .z)) | with_reducible exact .s (.s (.s (.s .z))) | with_reducible exact .s (.s (.s (.s (.s .z))))); (focus repeat' (first | with_reducible exact .z | with_reducible apply Drop.s)); exact rfl; all_goals skip) | ((with_reducible apply own_load HM); exact rfl; exact rfl; (first | (with_reducible exact aggP)); (first | with_reducible exact .z | with_reducible exact .s .z | with_reducible exact .s (.s .z) | with_reducible exact .s (.s (.s .z)) | with_reducible exact .s (.s (.s (.s .z))) | with_reducible exact .s (.s (.s (.s (.s .z))))); (focus repeat' (first | with_reducible exact .z | with_reducible apply Drop.s)); (focus repeat' (first | with_reducible exact .z | with_reducible apply Take.s)); exact rfl; all_goals skip) | ((with_reducible apply own_store HM); exact rfl; exact rfl; (conv => lhs; whnf); exact rfl; (first | with_reducible exact .z | with_reducible exact .s .z | with_reducible exact .s (.s .z) | with_reducible exact .s (.s (.s .z)) | with_reducible exact .s (.s (.s (.s .z))) | with_reducible exact .s (.s (.s (.s (.s .z))))); (focus repeat' (first | with_reducible exact .z | with_reducible apply Over.p | with_reducible apply Over.s)); (first | with_reducible exact .z | with_reducible exact .s .z | with_reducible exact .s (.s .z) | with_reducible exact .s (.s (.s .z)) | with_reducible exact .s (.s (.s (.s .z))) | with_reducible exact .s (.s (.s (.s (.s .z))))); (first | (with_reducible exact (aggP).size) | (with_reducible exact (oneInt).size)); exact rfl; exact rfl; exact rfl; exact rfl; intro w' HM'; clear HM; have HM := HM'; clear HM'; all_goals skip)
    | (go_at_call 36; (first | (with_reducible refine (first_at _ _ _ _ _ hy hz hp4 hq b hp _ (Tabs.own hT HM)).mono ?_) | (refine (first_at _ _ _ _ _ hy hz hp4 hq b hp _ (Tabs.own hT HM)).mono ?_)); rintro e w' ⟨rfl, hb⟩; have HM' := Lib.hid (HM.out.call hb); clear HM hb; have HM := HM'; clear HM'))
  all_goals go_ret
  all_goals exact ⟨rfl, Own.fin HM⟩
set_option maxRecDepth 100000 in
set_option maxHeartbeats 800000 in
theorem plain_1 (y z p q : Nat) (hy : y < 8) (hz : z < 8) (hp4 : p < 4) (hq : q < 2) (b : Tx) (hp : b ∈ pairs) (w : World) (hTab : Tabs w) : Calls Tryd.prog 18 #[.agg #[.int .i64 1, .int .i64 (y : Int), .int .i64 (z : Int), .int .i64 (p : Int), .int .i64 (q : Int)], .string ⟨(b).toArray⟩] w fun e w' => e = .returned (.string ⟨(cPlain 1 y z p q b).toArray⟩) ∧ Below w.heap.size w w' := by
  have hT : Hid (Tabs w) := hTab
  clear hTab
  have HM := Lib.hid (Own.start w)
  have tg1 : Hid True := trivial
  go_enter Tryd.func18, Tryd.ntmps18
  go_wp2_with (first
    | ((with_reducible apply own_box HM); exact rfl; (conv => lhs; whnf); exact rfl; exact rfl; (first | (clear tg1; intro w' g1 HM') | (clear tg2; intro w' g2 HM') | (clear tg3; intro w' g3 HM') | (clear tg4; intro w' g4 HM') | intro w' g' HM'); clear HM; have HM := HM'; clear HM'; all_goals skip) | ((with_reducible apply own_alloc HM); exact rfl; (first | (with_reducible exact zeroP)); exact rfl; (first | (clear tg1; intro w' g1 HM') | (clear tg2; intro w' g2 HM') | (clear tg3; intro w' g3 HM') | (clear tg4; intro w' g4 HM') | intro w' g' HM'); clear HM; have HM := HM'; clear HM'; all_goals skip) | ((with_reducible apply own_cell HM); exact rfl; exact rfl; (first | (with_reducible exact oneInt)); (first | with_reducible exact .z | with_reducible exact .s .z | with_reducible exact .s (.s .z) | with_reducible exact .s (.s (.s .z)) | with_reducible exact .s (.s (.s (.s .z))) | with_reducible exact .s (.s (.s (.s (.s .z))))); (focus repeat' (first | with_reducible exact .z | with_reducible apply Drop.s)); exact rfl; all_goals skip) | ((with_reducible apply own_load HM); exact rfl; exact rfl; (first | (with_reducible exact aggP)); (first | with_reducible exact .z | with_reducible exact .s .z | with_reducible exact .s (.s .z) | with_reducible exact .s (.s (.s .z)) | with_reducible exact .s (.s (.s (.s .z))) | with_reducible exact .s (.s (.s (.s (.s .z))))); (focus repeat' (first | with_reducible exact .z | with_reducible apply Drop.s)); (focus repeat' (first | with_reducible exact .z | with_reducible apply Take.s)); exact rfl; all_goals skip) | ((with_reducible apply own_store HM); exact rfl; exact rfl; (conv => lhs; whnf); exact rfl; (first | with_reducible exact .z | with_reducible exact .s .z | with_reducible exact .s (.s .z) | with_reducible exact .s (.s (.s .z)) | with_reducible exact .s (.s (.s (.s .z))) | with_reducible exact .s (.s (.s (.s (.s .z))))); (focus repeat' (first | with_reducible exact .z | with_reducible apply Over.p | with_reducible apply Over.s)); (first | with_reducible exact .z | with_reducible exact .s .z | with_reducible exact .s (.s .z) | with_reducible exact .s (.s (.s .z)) | with_reducible exact .s (.s (.s (.s .z))) | with_reducible exact .s (.s (.s (.s (.s .z))))); (first | (with_reducible exact (aggP).size) | (with_reducible exact (oneInt).size)); exact rfl; exact rfl; exact rfl; exact rfl; intro w' HM'; clear HM; have HM := HM'; clear HM'; all_goals skip)
    | (go_at_call 37; (first | (with_reducible refine (move_at _ _ _ _ _ hy hz hp4 hq b hp _ (Tabs.own hT HM)).mono ?_) | (refine (move_at _ _ _ _ _ hy hz hp4 hq b hp _ (Tabs.own hT HM)).mono ?_)); rintro e w' ⟨rfl, hb⟩; have HM' := Lib.hid (HM.out.call hb); clear HM hb; have HM := HM'; clear HM'))
  all_goals go_ret
  all_goals exact ⟨rfl, Own.fin HM⟩
set_option maxRecDepth 100000 in
set_option maxHeartbeats 800000 in
theorem plain_2 (y z p q : Nat) (hy : y < 8) (hz : z < 8) (hp4 : p < 4) (hq : q < 2) (b : Tx) (hp : b ∈ pairs) (w : World) (hTab : Tabs w) : Calls Tryd.prog 18 #[.agg #[.int .i64 2, .int .i64 (y : Int), .int .i64 (z : Int), .int .i64 (p : Int), .int .i64 (q : Int)], .string ⟨(b).toArray⟩] w fun e w' => e = .returned (.string ⟨(cPlain 2 y z p q b).toArray⟩) ∧ Below w.heap.size w w' := by
  have hT : Hid (Tabs w) := hTab
  have c1 := hTab.str (1, t_eightSums) (by decide) y (hy)
  have l1 := len_sg t_eightSums (by decide) y (hy)
  have l2 := len_single b hp z hz
  have y8 : (y : Int) < 8 := by omega
  clear hTab
  have HM := Lib.hid (Own.start w)
  have tg1 : Hid True := trivial
  go_enter Tryd.func18, Tryd.ntmps18
  go_wp2_with (first
    | ((with_reducible apply own_box HM); exact rfl; (conv => lhs; whnf); exact rfl; exact rfl; (first | (clear tg1; intro w' g1 HM') | (clear tg2; intro w' g2 HM') | (clear tg3; intro w' g3 HM') | (clear tg4; intro w' g4 HM') | intro w' g' HM'); clear HM; have HM := HM'; clear HM'; all_goals skip) | ((with_reducible apply own_alloc HM); exact rfl; (first | (with_reducible exact zeroP)); exact rfl; (first | (clear tg1; intro w' g1 HM') | (clear tg2; intro w' g2 HM') | (clear tg3; intro w' g3 HM') | (clear tg4; intro w' g4 HM') | intro w' g' HM'); clear HM; have HM := HM'; clear HM'; all_goals skip) | ((with_reducible apply own_cell HM); exact rfl; exact rfl; (first | (with_reducible exact oneInt)); (first | with_reducible exact .z | with_reducible exact .s .z | with_reducible exact .s (.s .z) | with_reducible exact .s (.s (.s .z)) | with_reducible exact .s (.s (.s (.s .z))) | with_reducible exact .s (.s (.s (.s (.s .z))))); (focus repeat' (first | with_reducible exact .z | with_reducible apply Drop.s)); exact rfl; all_goals skip) | ((with_reducible apply own_load HM); exact rfl; exact rfl; (first | (with_reducible exact aggP)); (first | with_reducible exact .z | with_reducible exact .s .z | with_reducible exact .s (.s .z) | with_reducible exact .s (.s (.s .z)) | with_reducible exact .s (.s (.s (.s .z))) | with_reducible exact .s (.s (.s (.s (.s .z))))); (focus repeat' (first | with_reducible exact .z | with_reducible apply Drop.s)); (focus repeat' (first | with_reducible exact .z | with_reducible apply Take.s)); exact rfl; all_goals skip) | ((with_reducible apply own_store HM); exact rfl; exact rfl; (conv => lhs; whnf); exact rfl; (first | with_reducible exact .z | with_reducible exact .s .z | with_reducible exact .s (.s .z) | with_reducible exact .s (.s (.s .z)) | with_reducible exact .s (.s (.s (.s .z))) | with_reducible exact .s (.s (.s (.s (.s .z))))); (focus repeat' (first | with_reducible exact .z | with_reducible apply Over.p | with_reducible apply Over.s)); (first | with_reducible exact .z | with_reducible exact .s .z | with_reducible exact .s (.s .z) | with_reducible exact .s (.s (.s .z)) | with_reducible exact .s (.s (.s (.s .z))) | with_reducible exact .s (.s (.s (.s (.s .z))))); (first | (with_reducible exact (aggP).size) | (with_reducible exact (oneInt).size)); exact rfl; exact rfl; exact rfl; exact rfl; intro w' HM'; clear HM; have HM := HM'; clear HM'; all_goals skip))
  all_goals (try ((refine own_region HM (by kernel_rfl) (by kernel_rfl) ?_; (try simp only [Act.put, List.setIfInBounds_toArray, List.set_cons_zero, List.set_cons_succ]); repeat ((fail_if_success (with_reducible refine wpQuiet_nil ?_)); first | go_big_quiet_skip | (go_big_quiet_want; first | ((with_reducible apply quiet_cat); exact rfl; exact rfl; (first | assumption | decide | ((try simp only [List.length_append, List.length_cons, List.length_nil]); omega)); go_big_quiet_op; go_big_quiet_on) | ((with_reducible apply quiet_cell); exact rfl; (first | (with_reducible exact oneInt)); (first | with_reducible exact .z | with_reducible exact .s .z | with_reducible exact .s (.s .z) | with_reducible exact .s (.s (.s .z)) | with_reducible exact .s (.s (.s (.s .z))) | with_reducible exact .s (.s (.s (.s (.s .z))))); (focus repeat' (first | with_reducible exact .z | with_reducible apply Drop.s)); go_big_quiet_op; go_big_quiet_on) | ((with_reducible apply quiet_old); exact rfl; (first | (with_reducible exact oneInt) | (with_reducible exact oneU8) | (with_reducible exact oneBool) | (with_reducible exact oneU16) | (with_reducible exact oneStr)); (first | (with_reducible exact c1)); exact rfl; go_big_quiet_op; go_big_quiet_on) | ((with_reducible apply quiet_call); exact fun w => rfl; (focus (go_simp; all_goals with_reducible rfl)); (intro wq HQ; first | exact (single_at z hz b hp _ (Tabs.own hT HQ))); go_big_quiet_op; go_big_quiet_on) | (go_big_quiet_op; go_big_quiet_on) | (go_big_quiet_op; refine ⟨_, fun _ _ => rfl, ?_⟩; go_big_quiet_on)))); ((refine wpQuiet_nil ?_; intro w' HM'; clear HM; have HM := HM'; clear HM'; go_wp2_with fail))))
  all_goals go_ret
  all_goals exact ⟨rfl, Own.fin HM⟩
set_option maxRecDepth 100000 in
set_option maxHeartbeats 800000 in
theorem plain_3 (y z p q : Nat) (hy : y < 8) (hz : z < 8) (hp4 : p < 4) (hq : q < 2) (b : Tx) (hp : b ∈ pairs) (w : World) (hTab : Tabs w) : Calls Tryd.prog 18 #[.agg #[.int .i64 3, .int .i64 (y : Int), .int .i64 (z : Int), .int .i64 (p : Int), .int .i64 (q : Int)], .string ⟨(b).toArray⟩] w fun e w' => e = .returned (.string ⟨(cPlain 3 y z p q b).toArray⟩) ∧ Below w.heap.size w w' := by
  have hT : Hid (Tabs w) := hTab
  clear hTab
  have HM := Lib.hid (Own.start w)
  have tg1 : Hid True := trivial
  go_enter Tryd.func18, Tryd.ntmps18
  go_wp2_with (first
    | ((with_reducible apply own_box HM); exact rfl; (conv => lhs; whnf); exact rfl; exact rfl; (first | (clear tg1; intro w' g1 HM') | (clear tg2; intro w' g2 HM') | (clear tg3; intro w' g3 HM') | (clear tg4; intro w' g4 HM') | intro w' g' HM'); clear HM; have HM := HM'; clear HM'; all_goals skip) | ((with_reducible apply own_alloc HM); exact rfl; (first | (with_reducible exact zeroP)); exact rfl; (first | (clear tg1; intro w' g1 HM') | (clear tg2; intro w' g2 HM') | (clear tg3; intro w' g3 HM') | (clear tg4; intro w' g4 HM') | intro w' g' HM'); clear HM; have HM := HM'; clear HM'; all_goals skip) | ((with_reducible apply own_cell HM); exact rfl; exact rfl; (first | (with_reducible exact oneInt)); (first | with_reducible exact .z | with_reducible exact .s .z | with_reducible exact .s (.s .z) | with_reducible exact .s (.s (.s .z)) | with_reducible exact .s (.s (.s (.s .z))) | with_reducible exact .s (.s (.s (.s (.s .z))))); (focus repeat' (first | with_reducible exact .z | with_reducible apply Drop.s)); exact rfl; all_goals skip) | ((with_reducible apply own_load HM); exact rfl; exact rfl; (first | (with_reducible exact aggP)); (first | with_reducible exact .z | with_reducible exact .s .z | with_reducible exact .s (.s .z) | with_reducible exact .s (.s (.s .z)) | with_reducible exact .s (.s (.s (.s .z))) | with_reducible exact .s (.s (.s (.s (.s .z))))); (focus repeat' (first | with_reducible exact .z | with_reducible apply Drop.s)); (focus repeat' (first | with_reducible exact .z | with_reducible apply Take.s)); exact rfl; all_goals skip) | ((with_reducible apply own_store HM); exact rfl; exact rfl; (conv => lhs; whnf); exact rfl; (first | with_reducible exact .z | with_reducible exact .s .z | with_reducible exact .s (.s .z) | with_reducible exact .s (.s (.s .z)) | with_reducible exact .s (.s (.s (.s .z))) | with_reducible exact .s (.s (.s (.s (.s .z))))); (focus repeat' (first | with_reducible exact .z | with_reducible apply Over.p | with_reducible apply Over.s)); (first | with_reducible exact .z | with_reducible exact .s .z | with_reducible exact .s (.s .z) | with_reducible exact .s (.s (.s .z)) | with_reducible exact .s (.s (.s (.s .z))) | with_reducible exact .s (.s (.s (.s (.s .z))))); (first | (with_reducible exact (aggP).size) | (with_reducible exact (oneInt).size)); exact rfl; exact rfl; exact rfl; exact rfl; intro w' HM'; clear HM; have HM := HM'; clear HM'; all_goals skip)
    | (go_at_call 39; (first | (with_reducible refine (last_at _ _ _ _ _ hy hz hp4 hq b hp _ (Tabs.own hT HM)).mono ?_) | (refine (last_at _ _ _ _ _ hy hz hp4 hq b hp _ (Tabs.own hT HM)).mono ?_)); rintro e w' ⟨rfl, hb⟩; have HM' := Lib.hid (HM.out.call hb); clear HM hb; have HM := HM'; clear HM'))
  all_goals go_ret
  all_goals exact ⟨rfl, Own.fin HM⟩
theorem plain_at (x y z p q : Nat) (hx : x < 4) (hy : y < 8) (hz : z < 8) (hp4 : p < 4) (hq : q < 2) (b : Tx) (hp : b ∈ pairs) (w : World) (hT : Tabs w) : Calls Tryd.prog 18 #[.agg #[.int .i64 (x : Int), .int .i64 (y : Int), .int .i64 (z : Int), .int .i64 (p : Int), .int .i64 (q : Int)], .string ⟨b.toArray⟩] w fun e w' => e = .returned (.string ⟨(cPlain x y z p q b).toArray⟩) ∧ Below w.heap.size w w' := by
  match x, hx with
  | 0, _ => exact plain_0 y z p q hy hz hp4 hq b hp w hT
  | 1, _ => exact plain_1 y z p q hy hz hp4 hq b hp w hT
  | 2, _ => exact plain_2 y z p q hy hz hp4 hq b hp w hT
  | 3, _ => exact plain_3 y z p q hy hz hp4 hq b hp w hT
theorem u8_low3 (n : Nat) (hn : n < 256) : bits .and .u8 (n : Int) 7 = ((n % 8 : Nat) : Int) := by
  have h := u8_and n 7 (by omega) (by omega) (by omega) (by omega)
  rw [h]
  have e : (Int.toNat (n : Int)) &&& (Int.toNat 7) = n % 8 := by
    rw [Int.toNat_natCast]; exact Nat.and_two_pow_sub_one_eq_mod n 3
  exact congrArg Nat.cast e
set_option maxRecDepth 100000 in
set_option maxHeartbeats 1600000 in
theorem split_at (n : Nat) (hn : n < 256) (w : World) : Calls Tryd.prog 17 #[.int .u8 (n : Int)] w fun e w' => e = .returned (.agg #[.int .i64 ((n / 64 : Nat) : Int), .int .i64 ((n / 8 % 8 : Nat) : Int), .int .i64 ((n % 8 : Nat) : Int), .int .i64 ((n / 16 % 4 : Nat) : Int), .int .i64 ((n / 8 % 2 : Nat) : Int)]) ∧ Below w.heap.size w w' := by
  obtain ⟨x, hx⟩ : ∃ x, x = n / 64 := ⟨_, rfl⟩
  obtain ⟨m, hm⟩ : ∃ m, m = n / 8 := ⟨_, rfl⟩
  obtain ⟨y, hy⟩ : ∃ y, y = n / 8 % 8 := ⟨_, rfl⟩
  obtain ⟨z, hz⟩ : ∃ z, z = n % 8 := ⟨_, rfl⟩
  obtain ⟨p, hp⟩ : ∃ p, p = n / 16 % 4 := ⟨_, rfl⟩
  obtain ⟨q, hq⟩ : ∃ q, q = n / 8 % 2 := ⟨_, rfl⟩
  have a1 : bits .and .u8 (n : Int) 7 = (z : Int) := by rw [u8_low3 n hn, hz]
  have a2 : bits .and .u8 (m : Int) 7 = (y : Int) := by rw [u8_low3 m (by omega), hy, hm]
  have a3 : bits .and .i64 (y : Int) 1 = (q : Int) := by rw [i64_low1]; omega
  have d1 : (n : Int) / 8 = (m : Int) := by omega
  have d2 : (n : Int) / 64 = (x : Int) := by omega
  have d3 : (y : Int) / 2 = (p : Int) := by omega
  have y8 : (y : Int) < 8 := by omega
  have m8 : (m : Int) < 32 := by omega
  have n8 : (n : Int) < 256 := by omega
  have x8 : (x : Int) < 4 := by omega
  have z8 : (z : Int) < 8 := by omega
  rw [← hx, ← hy, ← hz, ← hp, ← hq]
  clear hx hm hy hz hp hq hn
  have HM := Lib.hid (Own.start w)
  have tg1 : Hid True := trivial
  go_enter Tryd.func17, Tryd.ntmps17
  go_wp2_with (first
    | ((with_reducible apply own_box HM); exact rfl; (conv => lhs; whnf); exact rfl; exact rfl; (first | (clear tg1; intro w' g1 HM') | (clear tg2; intro w' g2 HM') | (clear tg3; intro w' g3 HM') | (clear tg4; intro w' g4 HM') | intro w' g' HM'); clear HM; have HM := HM'; clear HM'; all_goals skip) | ((with_reducible apply own_alloc HM); exact rfl; (first | (with_reducible exact zeroP)); exact rfl; (first | (clear tg1; intro w' g1 HM') | (clear tg2; intro w' g2 HM') | (clear tg3; intro w' g3 HM') | (clear tg4; intro w' g4 HM') | intro w' g' HM'); clear HM; have HM := HM'; clear HM'; all_goals skip) | ((with_reducible apply own_cell HM); exact rfl; exact rfl; (first | (with_reducible exact oneInt)); (first | with_reducible exact .z | with_reducible exact .s .z | with_reducible exact .s (.s .z) | with_reducible exact .s (.s (.s .z)) | with_reducible exact .s (.s (.s (.s .z))) | with_reducible exact .s (.s (.s (.s (.s .z))))); (focus repeat' (first | with_reducible exact .z | with_reducible apply Drop.s)); exact rfl; all_goals skip) | ((with_reducible apply own_load HM); exact rfl; exact rfl; (first | (with_reducible exact aggP)); (first | with_reducible exact .z | with_reducible exact .s .z | with_reducible exact .s (.s .z) | with_reducible exact .s (.s (.s .z)) | with_reducible exact .s (.s (.s (.s .z))) | with_reducible exact .s (.s (.s (.s (.s .z))))); (focus repeat' (first | with_reducible exact .z | with_reducible apply Drop.s)); (focus repeat' (first | with_reducible exact .z | with_reducible apply Take.s)); exact rfl; all_goals skip) | ((with_reducible apply own_store HM); exact rfl; exact rfl; (conv => lhs; whnf); exact rfl; (first | with_reducible exact .z | with_reducible exact .s .z | with_reducible exact .s (.s .z) | with_reducible exact .s (.s (.s .z)) | with_reducible exact .s (.s (.s (.s .z))) | with_reducible exact .s (.s (.s (.s (.s .z))))); (focus repeat' (first | with_reducible exact .z | with_reducible apply Over.p | with_reducible apply Over.s)); (first | with_reducible exact .z | with_reducible exact .s .z | with_reducible exact .s (.s .z) | with_reducible exact .s (.s (.s .z)) | with_reducible exact .s (.s (.s (.s .z))) | with_reducible exact .s (.s (.s (.s (.s .z))))); (first | (with_reducible exact (aggP).size) | (with_reducible exact (oneInt).size)); exact rfl; exact rfl; exact rfl; exact rfl; intro w' HM'; clear HM; have HM := HM'; clear HM'; all_goals skip))
  refine bodyPost_ret (v := .agg #[.int .i64 (x : Int), .int .i64 (y : Int), .int .i64 (z : Int), .int .i64 (p : Int), .int .i64 (q : Int)]) (own_results HM Tryd.results17 _ rfl (by first | exact .z | exact .s .z) aggP) rfl ⟨rfl, Own.fin HM⟩
end Go.Proofs.YtaiceidmcelapaaDoor
