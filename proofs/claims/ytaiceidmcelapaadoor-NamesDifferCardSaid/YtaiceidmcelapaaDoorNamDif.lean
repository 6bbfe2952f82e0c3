/-
  Unlike bytes have unlike names.
-/
import Derived.Test.YtaiceidmcelapaaDoorNamAll
import Derived.Test.YtaiceidmcelapaaDoorNamDiffer
set_option linter.unusedSimpArgs false
set_option linter.unusedVariables false
namespace Go.Proofs.YtaiceidmcelapaaDoor
open Go.RowKit

set_option maxRecDepth 100000 in
set_option maxHeartbeats 3200000 in
theorem dif_lo (page : Int) (a b : Nat) (ha : a < 256) (hb : b < 256) (x y : Tx) (hx : cPat page a = x) (hy : cPat page b = y) (h : page < 0) (ex : x = []) (ey : y = []) (w : World) (hTab : Tabs w) : Calls Tryd.prog 7 #[.int .i64 page, .int .u8 (a : Int), .int .u8 (b : Int)] w fun e w' => e = .returned (.bool true) ∧ Below w.heap.size w w' := by
  have hT : Hid (Tabs w) := hTab
  have HP := Lib.hid (pat_at page a ha)
  have HQ := Lib.hid (pat_at page b hb)
  rw [hx] at HP
  rw [hy] at HQ
  clear hTab hx hy
  subst ex
  subst ey
  have HM := Lib.hid (Own.start w)
  go_enter Tryd.func7, Tryd.ntmps7
  go_wp2_with (first
    | (go_at_call 9; (with_reducible refine (alive_any _ (Tabs.own hT HM)).mono ?_); rintro e w' ⟨rfl, hb⟩; have HM' := Lib.hid (HM.out.call hb); clear HM hb; have HM := HM'; clear HM')
    | (go_at_call 10; (first | (with_reducible refine (HP.out _ (Tabs.own hT HM)).mono ?_) | (with_reducible refine (HQ.out _ (Tabs.own hT HM)).mono ?_)); rintro e w' ⟨rfl, hb⟩; have HM' := Lib.hid (HM.out.call hb); clear HM hb; have HM := HM'; clear HM'))
  go_ret
  exact ⟨rfl, Own.fin HM⟩
set_option maxRecDepth 100000 in
set_option maxHeartbeats 3200000 in
theorem dif_hi (page : Int) (a b : Nat) (ha : a < 256) (hb : b < 256) (x y : Tx) (hx : cPat page a = x) (hy : cPat page b = y) (h : 6 < page) (ex : x = []) (ey : y = []) (w : World) (hTab : Tabs w) : Calls Tryd.prog 7 #[.int .i64 page, .int .u8 (a : Int), .int .u8 (b : Int)] w fun e w' => e = .returned (.bool true) ∧ Below w.heap.size w w' := by
  have hT : Hid (Tabs w) := hTab
  have HP := Lib.hid (pat_at page a ha)
  have HQ := Lib.hid (pat_at page b hb)
  rw [hx] at HP
  rw [hy] at HQ
  clear hTab hx hy
  have h0 : ¬ page < 0 := by omega
  subst ex
  subst ey
  have HM := Lib.hid (Own.start w)
  go_enter Tryd.func7, Tryd.ntmps7
  go_wp2_with (first
    | (go_at_call 9; (with_reducible refine (alive_any _ (Tabs.own hT HM)).mono ?_); rintro e w' ⟨rfl, hb⟩; have HM' := Lib.hid (HM.out.call hb); clear HM hb; have HM := HM'; clear HM')
    | (go_at_call 10; (first | (with_reducible refine (HP.out _ (Tabs.own hT HM)).mono ?_) | (with_reducible refine (HQ.out _ (Tabs.own hT HM)).mono ?_)); rintro e w' ⟨rfl, hb⟩; have HM' := Lib.hid (HM.out.call hb); clear HM hb; have HM := HM'; clear HM'))
  go_ret
  exact ⟨rfl, Own.fin HM⟩
set_option maxRecDepth 100000 in
set_option maxHeartbeats 3200000 in
theorem dif_0 (a b : Nat) (ha : a < 256) (hb : b < 256) (x y : Tx) (hx : cPat 0 a = x) (hy : cPat 0 b = y) (ex : x.isEmpty = false) (ey : y.isEmpty = false) (c : Bool) (h1 : (x == y) = c) (h2 : ((a : Int) == (b : Int)) = c) (w : World) (hTab : Tabs w) : Calls Tryd.prog 7 #[.int .i64 0, .int .u8 (a : Int), .int .u8 (b : Int)] w fun e w' => e = .returned (.bool true) ∧ Below w.heap.size w w' := by
  have hT : Hid (Tabs w) := hTab
  have HP := Lib.hid (pat_at 0 a ha)
  have HQ := Lib.hid (pat_at 0 b hb)
  rw [hx] at HP
  rw [hy] at HQ
  clear hTab hx hy
  have fx : (x == []) = false := by cases x with | nil => cases ex | cons => rfl
  have fy : (y == []) = false := by cases y with | nil => cases ey | cons => rfl
  have HM := Lib.hid (Own.start w)
  go_enter Tryd.func7, Tryd.ntmps7
  go_wp2_with (first
    | (go_at_call 9; (with_reducible refine (alive_any _ (Tabs.own hT HM)).mono ?_); rintro e w' ⟨rfl, hb⟩; have HM' := Lib.hid (HM.out.call hb); clear HM hb; have HM := HM'; clear HM')
    | (go_at_call 10; (first | (with_reducible refine (HP.out _ (Tabs.own hT HM)).mono ?_) | (with_reducible refine (HQ.out _ (Tabs.own hT HM)).mono ?_)); rintro e w' ⟨rfl, hb⟩; have HM' := Lib.hid (HM.out.call hb); clear HM hb; have HM := HM'; clear HM'))
  go_ret
  exact ⟨rfl, Own.fin HM⟩
set_option maxRecDepth 100000 in
set_option maxHeartbeats 3200000 in
theorem dif_1 (a b : Nat) (ha : a < 256) (hb : b < 256) (x y : Tx) (hx : cPat 1 a = x) (hy : cPat 1 b = y) (ex : x.isEmpty = false) (ey : y.isEmpty = false) (c : Bool) (h1 : (x == y) = c) (h2 : ((a : Int) == (b : Int)) = c) (w : World) (hTab : Tabs w) : Calls Tryd.prog 7 #[.int .i64 1, .int .u8 (a : Int), .int .u8 (b : Int)] w fun e w' => e = .returned (.bool true) ∧ Below w.heap.size w w' := by
  have hT : Hid (Tabs w) := hTab
  have HP := Lib.hid (pat_at 1 a ha)
  have HQ := Lib.hid (pat_at 1 b hb)
  rw [hx] at HP
  rw [hy] at HQ
  clear hTab hx hy
  have fx : (x == []) = false := by cases x with | nil => cases ex | cons => rfl
  have fy : (y == []) = false := by cases y with | nil => cases ey | cons => rfl
  have HM := Lib.hid (Own.start w)
  go_enter Tryd.func7, Tryd.ntmps7
  go_wp2_with (first
    | (go_at_call 9; (with_reducible refine (alive_any _ (Tabs.own hT HM)).mono ?_); rintro e w' ⟨rfl, hb⟩; have HM' := Lib.hid (HM.out.call hb); clear HM hb; have HM := HM'; clear HM')
    | (go_at_call 10; (first | (with_reducible refine (HP.out _ (Tabs.own hT HM)).mono ?_) | (with_reducible refine (HQ.out _ (Tabs.own hT HM)).mono ?_)); rintro e w' ⟨rfl, hb⟩; have HM' := Lib.hid (HM.out.call hb); clear HM hb; have HM := HM'; clear HM'))
  go_ret
  exact ⟨rfl, Own.fin HM⟩
set_option maxRecDepth 100000 in
set_option maxHeartbeats 3200000 in
theorem dif_2n (a b : Nat) (ha : a < 256) (hb : b < 256) (x y : Tx) (hx : cPat 2 a = x) (hy : cPat 2 b = y) (ex : x.isEmpty = false) (ey : y.isEmpty = false) (h2 : ((a : Int) != (b : Int)) = true) (w : World) (hTab : Tabs w) : Calls Tryd.prog 7 #[.int .i64 2, .int .u8 (a : Int), .int .u8 (b : Int)] w fun e w' => e = .returned (.bool true) ∧ Below w.heap.size w w' := by
  have hT : Hid (Tabs w) := hTab
  have HP := Lib.hid (pat_at 2 a ha)
  have HQ := Lib.hid (pat_at 2 b hb)
  rw [hx] at HP
  rw [hy] at HQ
  clear hTab hx hy
  have fx : (x == []) = false := by cases x with | nil => cases ex | cons => rfl
  have fy : (y == []) = false := by cases y with | nil => cases ey | cons => rfl
  have HM := Lib.hid (Own.start w)
  go_enter Tryd.func7, Tryd.ntmps7
  go_wp2_with (first
    | (go_at_call 9; (with_reducible refine (alive_any _ (Tabs.own hT HM)).mono ?_); rintro e w' ⟨rfl, hb⟩; have HM' := Lib.hid (HM.out.call hb); clear HM hb; have HM := HM'; clear HM')
    | (go_at_call 10; (first | (with_reducible refine (HP.out _ (Tabs.own hT HM)).mono ?_) | (with_reducible refine (HQ.out _ (Tabs.own hT HM)).mono ?_)); rintro e w' ⟨rfl, hb⟩; have HM' := Lib.hid (HM.out.call hb); clear HM hb; have HM := HM'; clear HM'))
  go_ret
  exact ⟨rfl, Own.fin HM⟩
set_option maxRecDepth 100000 in
set_option maxHeartbeats 3200000 in
theorem dif_2e (a b : Nat) (ha : a < 256) (hb : b < 256) (x y : Tx) (hx : cPat 2 a = x) (hy : cPat 2 b = y) (ex : x.isEmpty = false) (ey : y.isEmpty = false) (h1 : (x == y) = true) (h2 : ((a : Int) != (b : Int)) = false) (w : World) (hTab : Tabs w) : Calls Tryd.prog 7 #[.int .i64 2, .int .u8 (a : Int), .int .u8 (b : Int)] w fun e w' => e = .returned (.bool true) ∧ Below w.heap.size w w' := by
  have hT : Hid (Tabs w) := hTab
  have HP := Lib.hid (pat_at 2 a ha)
  have HQ := Lib.hid (pat_at 2 b hb)
  rw [hx] at HP
  rw [hy] at HQ
  clear hTab hx hy
  have fx : (x == []) = false := by cases x with | nil => cases ex | cons => rfl
  have fy : (y == []) = false := by cases y with | nil => cases ey | cons => rfl
  have HM := Lib.hid (Own.start w)
  go_enter Tryd.func7, Tryd.ntmps7
  go_wp2_with (first
    | (go_at_call 9; (with_reducible refine (alive_any _ (Tabs.own hT HM)).mono ?_); rintro e w' ⟨rfl, hb⟩; have HM' := Lib.hid (HM.out.call hb); clear HM hb; have HM := HM'; clear HM')
    | (go_at_call 10; (first | (with_reducible refine (HP.out _ (Tabs.own hT HM)).mono ?_) | (with_reducible refine (HQ.out _ (Tabs.own hT HM)).mono ?_)); rintro e w' ⟨rfl, hb⟩; have HM' := Lib.hid (HM.out.call hb); clear HM hb; have HM := HM'; clear HM'))
  go_ret
  exact ⟨rfl, Own.fin HM⟩
set_option maxRecDepth 100000 in
set_option maxHeartbeats 3200000 in
theorem dif_3n (a b : Nat) (ha : a < 256) (hb : b < 256) (x y : Tx) (hx : cPat 3 a = x) (hy : cPat 3 b = y) (ex : x.isEmpty = false) (ey : y.isEmpty = false) (h2 : ((a : Int) != (b : Int)) = true) (w : World) (hTab : Tabs w) : Calls Tryd.prog 7 #[.int .i64 3, .int .u8 (a : Int), .int .u8 (b : Int)] w fun e w' => e = .returned (.bool true) ∧ Below w.heap.size w w' := by
  have hT : Hid (Tabs w) := hTab
  have HP := Lib.hid (pat_at 3 a ha)
  have HQ := Lib.hid (pat_at 3 b hb)
  rw [hx] at HP
  rw [hy] at HQ
  clear hTab hx hy
  have fx : (x == []) = false := by cases x with | nil => cases ex | cons => rfl
  have fy : (y == []) = false := by cases y with | nil => cases ey | cons => rfl
  have HM := Lib.hid (Own.start w)
  go_enter Tryd.func7, Tryd.ntmps7
  go_wp2_with (first
    | (go_at_call 9; (with_reducible refine (alive_any _ (Tabs.own hT HM)).mono ?_); rintro e w' ⟨rfl, hb⟩; have HM' := Lib.hid (HM.out.call hb); clear HM hb; have HM := HM'; clear HM')
    | (go_at_call 10; (first | (with_reducible refine (HP.out _ (Tabs.own hT HM)).mono ?_) | (with_reducible refine (HQ.out _ (Tabs.own hT HM)).mono ?_)); rintro e w' ⟨rfl, hb⟩; have HM' := Lib.hid (HM.out.call hb); clear HM hb; have HM := HM'; clear HM'))
  go_ret
  exact ⟨rfl, Own.fin HM⟩
set_option maxRecDepth 100000 in
set_option maxHeartbeats 3200000 in
theorem dif_3e (a b : Nat) (ha : a < 256) (hb : b < 256) (x y : Tx) (hx : cPat 3 a = x) (hy : cPat 3 b = y) (ex : x.isEmpty = false) (ey : y.isEmpty = false) (h1 : (x == y) = true) (h2 : ((a : Int) != (b : Int)) = false) (w : World) (hTab : Tabs w) : Calls Tryd.prog 7 #[.int .i64 3, .int .u8 (a : Int), .int .u8 (b : Int)] w fun e w' => e = .returned (.bool true) ∧ Below w.heap.size w w' := by
  have hT : Hid (Tabs w) := hTab
  have HP := Lib.hid (pat_at 3 a ha)
  have HQ := Lib.hid (pat_at 3 b hb)
  rw [hx] at HP
  rw [hy] at HQ
  clear hTab hx hy
  have fx : (x == []) = false := by cases x with | nil => cases ex | cons => rfl
  have fy : (y == []) = false := by cases y with | nil => cases ey | cons => rfl
  have HM := Lib.hid (Own.start w)
  go_enter Tryd.func7, Tryd.ntmps7
  go_wp2_with (first
    | (go_at_call 9; (with_reducible refine (alive_any _ (Tabs.own hT HM)).mono ?_); rintro e w' ⟨rfl, hb⟩; have HM' := Lib.hid (HM.out.call hb); clear HM hb; have HM := HM'; clear HM')
    | (go_at_call 10; (first | (with_reducible refine (HP.out _ (Tabs.own hT HM)).mono ?_) | (with_reducible refine (HQ.out _ (Tabs.own hT HM)).mono ?_)); rintro e w' ⟨rfl, hb⟩; have HM' := Lib.hid (HM.out.call hb); clear HM hb; have HM := HM'; clear HM'))
  go_ret
  exact ⟨rfl, Own.fin HM⟩
set_option maxRecDepth 100000 in
set_option maxHeartbeats 3200000 in
theorem dif_4n (a b : Nat) (ha : a < 256) (hb : b < 256) (x y : Tx) (hx : cPat 4 a = x) (hy : cPat 4 b = y) (ex : x.isEmpty = false) (ey : y.isEmpty = false) (h2 : ((a : Int) != (b : Int)) = true) (w : World) (hTab : Tabs w) : Calls Tryd.prog 7 #[.int .i64 4, .int .u8 (a : Int), .int .u8 (b : Int)] w fun e w' => e = .returned (.bool true) ∧ Below w.heap.size w w' := by
  have hT : Hid (Tabs w) := hTab
  have HP := Lib.hid (pat_at 4 a ha)
  have HQ := Lib.hid (pat_at 4 b hb)
  rw [hx] at HP
  rw [hy] at HQ
  clear hTab hx hy
  have fx : (x == []) = false := by cases x with | nil => cases ex | cons => rfl
  have fy : (y == []) = false := by cases y with | nil => cases ey | cons => rfl
  have HM := Lib.hid (Own.start w)
  go_enter Tryd.func7, Tryd.ntmps7
  go_wp2_with (first
    | (go_at_call 9; (with_reducible refine (alive_any _ (Tabs.own hT HM)).mono ?_); rintro e w' ⟨rfl, hb⟩; have HM' := Lib.hid (HM.out.call hb); clear HM hb; have HM := HM'; clear HM')
    | (go_at_call 10; (first | (with_reducible refine (HP.out _ (Tabs.own hT HM)).mono ?_) | (with_reducible refine (HQ.out _ (Tabs.own hT HM)).mono ?_)); rintro e w' ⟨rfl, hb⟩; have HM' := Lib.hid (HM.out.call hb); clear HM hb; have HM := HM'; clear HM'))
  go_ret
  exact ⟨rfl, Own.fin HM⟩
set_option maxRecDepth 100000 in
set_option maxHeartbeats 3200000 in
theorem dif_4e (a b : Nat) (ha : a < 256) (hb : b < 256) (x y : Tx) (hx : cPat 4 a = x) (hy : cPat 4 b = y) (ex : x.isEmpty = false) (ey : y.isEmpty = false) (h1 : (x == y) = true) (h2 : ((a : Int) != (b : Int)) = false) (w : World) (hTab : Tabs w) : Calls Tryd.prog 7 #[.int .i64 4, .int .u8 (a : Int), .int .u8 (b : Int)] w fun e w' => e = .returned (.bool true) ∧ Below w.heap.size w w' := by
  have hT : Hid (Tabs w) := hTab
  have HP := Lib.hid (pat_at 4 a ha)
  have HQ := Lib.hid (pat_at 4 b hb)
  rw [hx] at HP
  rw [hy] at HQ
  clear hTab hx hy
  have fx : (x == []) = false := by cases x with | nil => cases ex | cons => rfl
  have fy : (y == []) = false := by cases y with | nil => cases ey | cons => rfl
  have HM := Lib.hid (Own.start w)
  go_enter Tryd.func7, Tryd.ntmps7
  go_wp2_with (first
    | (go_at_call 9; (with_reducible refine (alive_any _ (Tabs.own hT HM)).mono ?_); rintro e w' ⟨rfl, hb⟩; have HM' := Lib.hid (HM.out.call hb); clear HM hb; have HM := HM'; clear HM')
    | (go_at_call 10; (first | (with_reducible refine (HP.out _ (Tabs.own hT HM)).mono ?_) | (with_reducible refine (HQ.out _ (Tabs.own hT HM)).mono ?_)); rintro e w' ⟨rfl, hb⟩; have HM' := Lib.hid (HM.out.call hb); clear HM hb; have HM := HM'; clear HM'))
  go_ret
  exact ⟨rfl, Own.fin HM⟩
set_option maxRecDepth 100000 in
set_option maxHeartbeats 3200000 in
theorem dif_5e (a b : Nat) (ha : a < 256) (hb : b < 256) (x y : Tx) (hx : cPat 5 a = x) (hy : cPat 5 b = y) (ex : x.isEmpty = false) (ey : y.isEmpty = false) (h1 : (x == y) = true) (h2 : ((a : Int) == (b : Int)) = true) (w : World) (hTab : Tabs w) : Calls Tryd.prog 7 #[.int .i64 5, .int .u8 (a : Int), .int .u8 (b : Int)] w fun e w' => e = .returned (.bool true) ∧ Below w.heap.size w w' := by
  have hT : Hid (Tabs w) := hTab
  have HP := Lib.hid (pat_at 5 a ha)
  have HQ := Lib.hid (pat_at 5 b hb)
  rw [hx] at HP
  rw [hy] at HQ
  clear hTab hx hy
  have fx : (x == []) = false := by cases x with | nil => cases ex | cons => rfl
  have fy : (y == []) = false := by cases y with | nil => cases ey | cons => rfl
  have HM := Lib.hid (Own.start w)
  go_enter Tryd.func7, Tryd.ntmps7
  go_wp2_with (first
    | (go_at_call 9; (with_reducible refine (alive_any _ (Tabs.own hT HM)).mono ?_); rintro e w' ⟨rfl, hb⟩; have HM' := Lib.hid (HM.out.call hb); clear HM hb; have HM := HM'; clear HM')
    | (go_at_call 10; (first | (with_reducible refine (HP.out _ (Tabs.own hT HM)).mono ?_) | (with_reducible refine (HQ.out _ (Tabs.own hT HM)).mono ?_)); rintro e w' ⟨rfl, hb⟩; have HM' := Lib.hid (HM.out.call hb); clear HM hb; have HM := HM'; clear HM'))
  go_ret
  exact ⟨rfl, Own.fin HM⟩
set_option maxRecDepth 100000 in
set_option maxHeartbeats 3200000 in
theorem dif_5q (a b : Nat) (ha : a < 256) (hb : b < 256) (x y : Tx) (hx : cPat 5 a = x) (hy : cPat 5 b = y) (ex : x.isEmpty = false) (ey : y.isEmpty = false) (c : Bool) (h1 : (x == y) = c) (h2 : ((a : Int) == (b : Int)) = false) (hq : a / 64 = 1) (h3 : (((a / 8 : Nat) : Int) == ((b / 8 : Nat) : Int)) = c) (w : World) (hTab : Tabs w) : Calls Tryd.prog 7 #[.int .i64 5, .int .u8 (a : Int), .int .u8 (b : Int)] w fun e w' => e = .returned (.bool true) ∧ Below w.heap.size w w' := by
  have hT : Hid (Tabs w) := hTab
  have HP := Lib.hid (pat_at 5 a ha)
  have HQ := Lib.hid (pat_at 5 b hb)
  rw [hx] at HP
  rw [hy] at HQ
  clear hTab hx hy
  have fx : (x == []) = false := by cases x with | nil => cases ex | cons => rfl
  have fy : (y == []) = false := by cases y with | nil => cases ey | cons => rfl
  obtain ⟨q, hq'⟩ : ∃ q, q = a / 64 := ⟨_, rfl⟩
  obtain ⟨r, hr⟩ : ∃ r, r = a / 8 := ⟨_, rfl⟩
  obtain ⟨t, ht⟩ : ∃ t, t = b / 8 := ⟨_, rfl⟩
  have qq1 : IntKind.u8.wrap ((a : Int).tdiv 64) = (q : Int) := by rw [Int.tdiv_eq_ediv_of_nonneg (by omega), IntKind.wrap_u8]; omega
  have qq2 : (a : Int) / 64 = (q : Int) := by omega
  have qq3 : IntKind.u8.wrap (q : Int) = (q : Int) := by rw [IntKind.wrap_u8]; omega
  have qr1 : IntKind.u8.wrap ((a : Int).tdiv 8) = (r : Int) := by rw [Int.tdiv_eq_ediv_of_nonneg (by omega), IntKind.wrap_u8]; omega
  have qr2 : (a : Int) / 8 = (r : Int) := by omega
  have qr3 : IntKind.u8.wrap (r : Int) = (r : Int) := by rw [IntKind.wrap_u8]; omega
  have qt1 : IntKind.u8.wrap ((b : Int).tdiv 8) = (t : Int) := by rw [Int.tdiv_eq_ediv_of_nonneg (by omega), IntKind.wrap_u8]; omega
  have qt2 : (b : Int) / 8 = (t : Int) := by omega
  have qt3 : IntKind.u8.wrap (t : Int) = (t : Int) := by rw [IntKind.wrap_u8]; omega
  have g1 : ((q : Int) == 1) = true := by rw [beq_iff_eq]; omega
  rw [← hr, ← ht] at h3
  clear hq hq' hr ht
  have HM := Lib.hid (Own.start w)
  go_enter Tryd.func7, Tryd.ntmps7
  go_wp2_with (first
    | (go_at_call 9; (with_reducible refine (alive_any _ (Tabs.own hT HM)).mono ?_); rintro e w' ⟨rfl, hb⟩; have HM' := Lib.hid (HM.out.call hb); clear HM hb; have HM := HM'; clear HM')
    | (go_at_call 10; (first | (with_reducible refine (HP.out _ (Tabs.own hT HM)).mono ?_) | (with_reducible refine (HQ.out _ (Tabs.own hT HM)).mono ?_)); rintro e w' ⟨rfl, hb⟩; have HM' := Lib.hid (HM.out.call hb); clear HM hb; have HM := HM'; clear HM'))
  go_ret
  exact ⟨rfl, Own.fin HM⟩
set_option maxRecDepth 100000 in
set_option maxHeartbeats 3200000 in
theorem dif_5x (a b : Nat) (ha : a < 256) (hb : b < 256) (x y : Tx) (hx : cPat 5 a = x) (hy : cPat 5 b = y) (ex : x.isEmpty = false) (ey : y.isEmpty = false) (h1 : (x == y) = false) (h2 : ((a : Int) == (b : Int)) = false) (hq : a / 64 ≠ 1) (w : World) (hTab : Tabs w) : Calls Tryd.prog 7 #[.int .i64 5, .int .u8 (a : Int), .int .u8 (b : Int)] w fun e w' => e = .returned (.bool true) ∧ Below w.heap.size w w' := by
  have hT : Hid (Tabs w) := hTab
  have HP := Lib.hid (pat_at 5 a ha)
  have HQ := Lib.hid (pat_at 5 b hb)
  rw [hx] at HP
  rw [hy] at HQ
  clear hTab hx hy
  have fx : (x == []) = false := by cases x with | nil => cases ex | cons => rfl
  have fy : (y == []) = false := by cases y with | nil => cases ey | cons => rfl
  obtain ⟨q, hq'⟩ : ∃ q, q = a / 64 := ⟨_, rfl⟩
  obtain ⟨r, hr⟩ : ∃ r, r = a / 8 := ⟨_, rfl⟩
  obtain ⟨t, ht⟩ : ∃ t, t = b / 8 := ⟨_, rfl⟩
  have qq1 : IntKind.u8.wrap ((a : Int).tdiv 64) = (q : Int) := by rw [Int.tdiv_eq_ediv_of_nonneg (by omega), IntKind.wrap_u8]; omega
  have qq2 : (a : Int) / 64 = (q : Int) := by omega
  have qq3 : IntKind.u8.wrap (q : Int) = (q : Int) := by rw [IntKind.wrap_u8]; omega
  have qr1 : IntKind.u8.wrap ((a : Int).tdiv 8) = (r : Int) := by rw [Int.tdiv_eq_ediv_of_nonneg (by omega), IntKind.wrap_u8]; omega
  have qr2 : (a : Int) / 8 = (r : Int) := by omega
  have qr3 : IntKind.u8.wrap (r : Int) = (r : Int) := by rw [IntKind.wrap_u8]; omega
  have qt1 : IntKind.u8.wrap ((b : Int).tdiv 8) = (t : Int) := by rw [Int.tdiv_eq_ediv_of_nonneg (by omega), IntKind.wrap_u8]; omega
  have qt2 : (b : Int) / 8 = (t : Int) := by omega
  have qt3 : IntKind.u8.wrap (t : Int) = (t : Int) := by rw [IntKind.wrap_u8]; omega
  have g1 : ((q : Int) == 1) = false := by rw [beq_eq_false_iff_ne]; omega
  clear hq hq' hr ht
  have HM := Lib.hid (Own.start w)
  go_enter Tryd.func7, Tryd.ntmps7
  go_wp2_with (first
    | (go_at_call 9; (with_reducible refine (alive_any _ (Tabs.own hT HM)).mono ?_); rintro e w' ⟨rfl, hb⟩; have HM' := Lib.hid (HM.out.call hb); clear HM hb; have HM := HM'; clear HM')
    | (go_at_call 10; (first | (with_reducible refine (HP.out _ (Tabs.own hT HM)).mono ?_) | (with_reducible refine (HQ.out _ (Tabs.own hT HM)).mono ?_)); rintro e w' ⟨rfl, hb⟩; have HM' := Lib.hid (HM.out.call hb); clear HM hb; have HM := HM'; clear HM'))
  go_ret
  exact ⟨rfl, Own.fin HM⟩
set_option maxRecDepth 100000 in
set_option maxHeartbeats 3200000 in
theorem dif_6e (a b : Nat) (ha : a < 256) (hb : b < 256) (x y : Tx) (hx : cPat 6 a = x) (hy : cPat 6 b = y) (ex : x.isEmpty = false) (ey : y.isEmpty = false) (h1 : (x == y) = true) (h2 : ((a : Int) == (b : Int)) = true) (w : World) (hTab : Tabs w) : Calls Tryd.prog 7 #[.int .i64 6, .int .u8 (a : Int), .int .u8 (b : Int)] w fun e w' => e = .returned (.bool true) ∧ Below w.heap.size w w' := by
  have hT : Hid (Tabs w) := hTab
  have HP := Lib.hid (pat_at 6 a ha)
  have HQ := Lib.hid (pat_at 6 b hb)
  rw [hx] at HP
  rw [hy] at HQ
  clear hTab hx hy
  have fx : (x == []) = false := by cases x with | nil => cases ex | cons => rfl
  have fy : (y == []) = false := by cases y with | nil => cases ey | cons => rfl
  have HM := Lib.hid (Own.start w)
  go_enter Tryd.func7, Tryd.ntmps7
  go_wp2_with (first
    | (go_at_call 9; (with_reducible refine (alive_any _ (Tabs.own hT HM)).mono ?_); rintro e w' ⟨rfl, hb⟩; have HM' := Lib.hid (HM.out.call hb); clear HM hb; have HM := HM'; clear HM')
    | (go_at_call 10; (first | (with_reducible refine (HP.out _ (Tabs.own hT HM)).mono ?_) | (with_reducible refine (HQ.out _ (Tabs.own hT HM)).mono ?_)); rintro e w' ⟨rfl, hb⟩; have HM' := Lib.hid (HM.out.call hb); clear HM hb; have HM := HM'; clear HM'))
  go_ret
  exact ⟨rfl, Own.fin HM⟩
set_option maxRecDepth 100000 in
set_option maxHeartbeats 3200000 in
theorem dif_6q (a b : Nat) (ha : a < 256) (hb : b < 256) (x y : Tx) (hx : cPat 6 a = x) (hy : cPat 6 b = y) (ex : x.isEmpty = false) (ey : y.isEmpty = false) (c : Bool) (h1 : (x == y) = c) (h2 : ((a : Int) == (b : Int)) = false) (hq : a / 64 = 1) (h3 : (((a / 8 : Nat) : Int) == ((b / 8 : Nat) : Int)) = c) (w : World) (hTab : Tabs w) : Calls Tryd.prog 7 #[.int .i64 6, .int .u8 (a : Int), .int .u8 (b : Int)] w fun e w' => e = .returned (.bool true) ∧ Below w.heap.size w w' := by
  have hT : Hid (Tabs w) := hTab
  have HP := Lib.hid (pat_at 6 a ha)
  have HQ := Lib.hid (pat_at 6 b hb)
  rw [hx] at HP
  rw [hy] at HQ
  clear hTab hx hy
  have fx : (x == []) = false := by cases x with | nil => cases ex | cons => rfl
  have fy : (y == []) = false := by cases y with | nil => cases ey | cons => rfl
  obtain ⟨q, hq'⟩ : ∃ q, q = a / 64 := ⟨_, rfl⟩
  obtain ⟨r, hr⟩ : ∃ r, r = a / 8 := ⟨_, rfl⟩
  obtain ⟨t, ht⟩ : ∃ t, t = b / 8 := ⟨_, rfl⟩
  have qq1 : IntKind.u8.wrap ((a : Int).tdiv 64) = (q : Int) := by rw [Int.tdiv_eq_ediv_of_nonneg (by omega), IntKind.wrap_u8]; omega
  have qq2 : (a : Int) / 64 = (q : Int) := by omega
  have qq3 : IntKind.u8.wrap (q : Int) = (q : Int) := by rw [IntKind.wrap_u8]; omega
  have qr1 : IntKind.u8.wrap ((a : Int).tdiv 8) = (r : Int) := by rw [Int.tdiv_eq_ediv_of_nonneg (by omega), IntKind.wrap_u8]; omega
  have qr2 : (a : Int) / 8 = (r : Int) := by omega
  have qr3 : IntKind.u8.wrap (r : Int) = (r : Int) := by rw [IntKind.wrap_u8]; omega
  have qt1 : IntKind.u8.wrap ((b : Int).tdiv 8) = (t : Int) := by rw [Int.tdiv_eq_ediv_of_nonneg (by omega), IntKind.wrap_u8]; omega
  have qt2 : (b : Int) / 8 = (t : Int) := by omega
  have qt3 : IntKind.u8.wrap (t : Int) = (t : Int) := by rw [IntKind.wrap_u8]; omega
  have g1 : ((q : Int) == 1) = true := by rw [beq_iff_eq]; omega
  rw [← hr, ← ht] at h3
  clear hq hq' hr ht
  have HM := Lib.hid (Own.start w)
  go_enter Tryd.func7, Tryd.ntmps7
  go_wp2_with (first
    | (go_at_call 9; (with_reducible refine (alive_any _ (Tabs.own hT HM)).mono ?_); rintro e w' ⟨rfl, hb⟩; have HM' := Lib.hid (HM.out.call hb); clear HM hb; have HM := HM'; clear HM')
    | (go_at_call 10; (first | (with_reducible refine (HP.out _ (Tabs.own hT HM)).mono ?_) | (with_reducible refine (HQ.out _ (Tabs.own hT HM)).mono ?_)); rintro e w' ⟨rfl, hb⟩; have HM' := Lib.hid (HM.out.call hb); clear HM hb; have HM := HM'; clear HM'))
  go_ret
  exact ⟨rfl, Own.fin HM⟩
set_option maxRecDepth 100000 in
set_option maxHeartbeats 3200000 in
theorem dif_6x (a b : Nat) (ha : a < 256) (hb : b < 256) (x y : Tx) (hx : cPat 6 a = x) (hy : cPat 6 b = y) (ex : x.isEmpty = false) (ey : y.isEmpty = false) (h1 : (x == y) = false) (h2 : ((a : Int) == (b : Int)) = false) (hq : a / 64 ≠ 1) (w : World) (hTab : Tabs w) : Calls Tryd.prog 7 #[.int .i64 6, .int .u8 (a : Int), .int .u8 (b : Int)] w fun e w' => e = .returned (.bool true) ∧ Below w.heap.size w w' := by
  have hT : Hid (Tabs w) := hTab
  have HP := Lib.hid (pat_at 6 a ha)
  have HQ := Lib.hid (pat_at 6 b hb)
  rw [hx] at HP
  rw [hy] at HQ
  clear hTab hx hy
  have fx : (x == []) = false := by cases x with | nil => cases ex | cons => rfl
  have fy : (y == []) = false := by cases y with | nil => cases ey | cons => rfl
  obtain ⟨q, hq'⟩ : ∃ q, q = a / 64 := ⟨_, rfl⟩
  obtain ⟨r, hr⟩ : ∃ r, r = a / 8 := ⟨_, rfl⟩
  obtain ⟨t, ht⟩ : ∃ t, t = b / 8 := ⟨_, rfl⟩
  have qq1 : IntKind.u8.wrap ((a : Int).tdiv 64) = (q : Int) := by rw [Int.tdiv_eq_ediv_of_nonneg (by omega), IntKind.wrap_u8]; omega
  have qq2 : (a : Int) / 64 = (q : Int) := by omega
  have qq3 : IntKind.u8.wrap (q : Int) = (q : Int) := by rw [IntKind.wrap_u8]; omega
  have qr1 : IntKind.u8.wrap ((a : Int).tdiv 8) = (r : Int) := by rw [Int.tdiv_eq_ediv_of_nonneg (by omega), IntKind.wrap_u8]; omega
  have qr2 : (a : Int) / 8 = (r : Int) := by omega
  have qr3 : IntKind.u8.wrap (r : Int) = (r : Int) := by rw [IntKind.wrap_u8]; omega
  have qt1 : IntKind.u8.wrap ((b : Int).tdiv 8) = (t : Int) := by rw [Int.tdiv_eq_ediv_of_nonneg (by omega), IntKind.wrap_u8]; omega
  have qt2 : (b : Int) / 8 = (t : Int) := by omega
  have qt3 : IntKind.u8.wrap (t : Int) = (t : Int) := by rw [IntKind.wrap_u8]; omega
  have g1 : ((q : Int) == 1) = false := by rw [beq_eq_false_iff_ne]; omega
  clear hq hq' hr ht
  have HM := Lib.hid (Own.start w)
  go_enter Tryd.func7, Tryd.ntmps7
  go_wp2_with (first
    | (go_at_call 9; (with_reducible refine (alive_any _ (Tabs.own hT HM)).mono ?_); rintro e w' ⟨rfl, hb⟩; have HM' := Lib.hid (HM.out.call hb); clear HM hb; have HM := HM'; clear HM')
    | (go_at_call 10; (first | (with_reducible refine (HP.out _ (Tabs.own hT HM)).mono ?_) | (with_reducible refine (HQ.out _ (Tabs.own hT HM)).mono ?_)); rintro e w' ⟨rfl, hb⟩; have HM' := Lib.hid (HM.out.call hb); clear HM hb; have HM := HM'; clear HM'))
  go_ret
  exact ⟨rfl, Own.fin HM⟩
theorem eqT {x y : Tx} (h : x = y) : (x == y) = true := by rw [beq_iff_eq]; exact h
theorem eqF {x y : Tx} (h : x ≠ y) : (x == y) = false := by rw [beq_eq_false_iff_ne]; exact h
theorem eqI {a b : Nat} (h : a = b) : ((a : Int) == (b : Int)) = true := by rw [beq_iff_eq]; omega
theorem neI {a b : Nat} (h : a ≠ b) : ((a : Int) == (b : Int)) = false := by rw [beq_eq_false_iff_ne]; omega
theorem bneI {a b : Nat} (h : a ≠ b) : ((a : Int) != (b : Int)) = true := by rw [bne, neI h]; rfl
theorem bneE {a b : Nat} (h : a = b) : ((a : Int) != (b : Int)) = false := by rw [bne, eqI h]; rfl
theorem differ_any (page : Int) (a b : Nat) (ha : a < 256) (hb : b < 256) (w : World) (hT : Tabs w) : Calls Tryd.prog 7 #[.int .i64 page, .int .u8 (a : Int), .int .u8 (b : Int)] w fun e w' => e = .returned (.bool true) ∧ Below w.heap.size w w' := by
  by_cases hlo : page < 0
  · exact dif_lo page a b ha hb _ _ rfl rfl hlo (pat_none page (.inl hlo) a) (pat_none page (.inl hlo) b) w hT
  · by_cases hhi : 6 < page
    · exact dif_hi page a b ha hb _ _ rfl rfl hhi (pat_none page (.inr hhi) a) (pat_none page (.inr hhi) b) w hT
    · obtain rfl | rfl | rfl | rfl | rfl | rfl | rfl : page = 0 ∨ page = 1 ∨ page = 2 ∨ page = 3 ∨ page = 4 ∨ page = 5 ∨ page = 6 := by omega
      · by_cases h : a = b
        · exact dif_0 a b ha hb _ _ rfl rfl (pat_some 0 (by decide) a ha) (pat_some 0 (by decide) b hb) true (eqT (by rw [h])) (eqI h) w hT
        · exact dif_0 a b ha hb _ _ rfl rfl (pat_some 0 (by decide) a ha) (pat_some 0 (by decide) b hb) false (eqF (fun he => h (differ_one 0 (by decide) a b ha hb he))) (neI h) w hT
      · by_cases h : a = b
        · exact dif_1 a b ha hb _ _ rfl rfl (pat_some 1 (by decide) a ha) (pat_some 1 (by decide) b hb) true (eqT (by rw [h])) (eqI h) w hT
        · exact dif_1 a b ha hb _ _ rfl rfl (pat_some 1 (by decide) a ha) (pat_some 1 (by decide) b hb) false (eqF (fun he => h (differ_one 1 (by decide) a b ha hb he))) (neI h) w hT
      · by_cases h : a = b
        · exact dif_2e a b ha hb _ _ rfl rfl (pat_some 2 (by decide) a ha) (pat_some 2 (by decide) b hb) (eqT (by rw [h])) (bneE h) w hT
        · exact dif_2n a b ha hb _ _ rfl rfl (pat_some 2 (by decide) a ha) (pat_some 2 (by decide) b hb) (bneI h) w hT
      · by_cases h : a = b
        · exact dif_3e a b ha hb _ _ rfl rfl (pat_some 3 (by decide) a ha) (pat_some 3 (by decide) b hb) (eqT (by rw [h])) (bneE h) w hT
        · exact dif_3n a b ha hb _ _ rfl rfl (pat_some 3 (by decide) a ha) (pat_some 3 (by decide) b hb) (bneI h) w hT
      · by_cases h : a = b
        · exact dif_4e a b ha hb _ _ rfl rfl (pat_some 4 (by decide) a ha) (pat_some 4 (by decide) b hb) (eqT (by rw [h])) (bneE h) w hT
        · exact dif_4n a b ha hb _ _ rfl rfl (pat_some 4 (by decide) a ha) (pat_some 4 (by decide) b hb) (bneI h) w hT
      · by_cases h : a = b
        · exact dif_5e a b ha hb _ _ rfl rfl (pat_some 5 (by decide) a ha) (pat_some 5 (by decide) b hb) (eqT (by rw [h])) (eqI h) w hT
        · by_cases hq : a / 64 = 1
          · by_cases h8 : a / 8 = b / 8
            · exact dif_5q a b ha hb _ _ rfl rfl (pat_some 5 (by decide) a ha) (pat_some 5 (by decide) b hb) true (eqT (asks_one 5 (by decide) a b ha hb hq h8)) (neI h) hq (eqI h8) w hT
            · exact dif_5q a b ha hb _ _ rfl rfl (pat_some 5 (by decide) a ha) (pat_some 5 (by decide) b hb) false (eqF (fun he => (differ_two 5 (by decide) a b ha hb he).elim h (fun x => h8 x.2))) (neI h) hq (neI h8) w hT
          · exact dif_5x a b ha hb _ _ rfl rfl (pat_some 5 (by decide) a ha) (pat_some 5 (by decide) b hb) (eqF (fun he => (differ_two 5 (by decide) a b ha hb he).elim h (fun x => hq x.1))) (neI h) hq w hT
      · by_cases h : a = b
        · exact dif_6e a b ha hb _ _ rfl rfl (pat_some 6 (by decide) a ha) (pat_some 6 (by decide) b hb) (eqT (by rw [h])) (eqI h) w hT
        · by_cases hq : a / 64 = 1
          · by_cases h8 : a / 8 = b / 8
            · exact dif_6q a b ha hb _ _ rfl rfl (pat_some 6 (by decide) a ha) (pat_some 6 (by decide) b hb) true (eqT (asks_one 6 (by decide) a b ha hb hq h8)) (neI h) hq (eqI h8) w hT
            · exact dif_6q a b ha hb _ _ rfl rfl (pat_some 6 (by decide) a ha) (pat_some 6 (by decide) b hb) false (eqF (fun he => (differ_two 6 (by decide) a b ha hb he).elim h (fun x => h8 x.2))) (neI h) hq (neI h8) w hT
          · exact dif_6x a b ha hb _ _ rfl rfl (pat_some 6 (by decide) a ha) (pat_some 6 (by decide) b hb) (eqF (fun he => (differ_two 6 (by decide) a b ha hb he).elim h (fun x => hq x.1))) (neI h) hq w hT
end Go.Proofs.YtaiceidmcelapaaDoor
