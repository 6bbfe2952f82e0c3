import Derived.Test.YtgdeeiimkhjfiaaGreatDoorV20
set_option maxRecDepth 100000
set_option maxHeartbeats 6400000
namespace Go.Proofs.YtgdeeiimkhjfiaaGreatDoor
open Go.RowKit
section
variable {W0 w : World} {x b tq n c : Nat} {s : Cs} {ix : Bool} {pg : Int} {l : Zj}
theorem Zlu (w : World) : (Instr.buildSlice 80 8 #[(0, .string ⟨#[65]⟩), (1, .string ⟨#[70]⟩), (2, .string ⟨#[66]⟩), (3, .string ⟨#[67]⟩), (4, .string ⟨#[68]⟩), (5, .string ⟨#[69]⟩), (6, .string ⟨#[72]⟩), (7, .string ⟨#[76]⟩)]).run Tryz.prog w = .ok (.slice (some ⟨w.heap.size, 0, none⟩) 8 8) (w.alloc (.cells #[.string ⟨#[65]⟩, .string ⟨#[70]⟩, .string ⟨#[66]⟩, .string ⟨#[67]⟩, .string ⟨#[68]⟩, .string ⟨#[69]⟩, .string ⟨#[72]⟩, .string ⟨#[76]⟩] 9)) := by kernel_rfl
def swapNames : List Value := [.string ⟨#[65]⟩, .string ⟨#[70]⟩, .string ⟨#[66]⟩, .string ⟨#[67]⟩, .string ⟨#[68]⟩, .string ⟨#[69]⟩, .string ⟨#[72]⟩, .string ⟨#[76]⟩]
theorem jM (r : Rg) (hr : r.Fits) (w : World) : Calls Tryz.prog 100 #[r.v, .bool false] w fun e w' => e = .returned (r.swap false).v ∧ Below w.heap.size w w' := by
 have tg3 : Hid True := trivial
 have tg4 : Hid True := trivial
 have HR := Zb hr
 clear hr
 have HM := Zb (Own.start w)
 have tg1 : Hid True := trivial
 have tg2 : Hid True := trivial
 go_enter Tryz.func100, Tryz.ntmps100
 go_wp2_with (first | (refine b0 ?_; (first | (clear tg1 HM; intro w' g1 HM) | (clear tg2 HM; intro w' g2 HM) | (clear tg3 HM; intro w' g3 HM) | (clear tg4 HM; intro w' g4 HM) | (clear HM; intro w' g' HM))) | refine a6 ?_ | (refine a7 ?_; clear HM; intro w' HM) | ((with_reducible apply Yc (cs := swapNames) (e := 9) (n := 8) HM); exact rfl; exact Zlu; (focus (go_simp; done)); exact rfl; (first | (clear tg1 HM; intro w' g1 HM) | (clear tg2 HM; intro w' g2 HM) | (clear tg3 HM; intro w' g3 HM) | (clear tg4 HM; intro w' g4 HM))))
 change Hid (Own w _ [(g4, 9, swapNames), (g3, 25, r.cells), (g2, 25, rg0.cells), (g1, 25, r.cells)]) at HM
 go_loopw [11] (fun i wr => ∃ k : Nat, k ≤ 8 ∧ i = .int .i64 (k : Int) ∧ Hid (Own w wr [(g4, 9, swapNames), (g3, 25, (r.swapTo 0 (min k 2)).cells), (g2, 25, rg0.cells), (g1, 25, r.cells)])) (fun i _ => 8 - (intOf i).toNat)
 case atStart => exact ⟨0, by omega, rfl, HM⟩
 case round =>
  clear HM
  obtain ⟨k, hk, rfl, HM⟩ := hrel
  rcases (show k = 0 ∨ k = 1 ∨ k = 2 ∨ k = 3 ∨ k = 4 ∨ k = 5 ∨ k = 6 ∨ k = 7 ∨ k = 8 by omega) with rfl | rfl | rfl | rfl | rfl | rfl | rfl | rfl | rfl
  ·change Hid (Own w _ [(g4, 9, swapNames), (g3, 25, (r.swapTo 0 (0)).cells), (g2, 25, rg0.cells), (g1, 25, r.cells)]) at HM
   obtain ⟨q, hq⟩ : ∃ q, q = r.swapTo 0 0 := ⟨_, rfl⟩
   rw [← hq] at HM
   have HQ := Zb hq
   clear hq
   have hb : (r.a : Int) < 256 := by have := HR.out.a; omega
   have hx : (r.x0 : Int) < 256 := by have := HR.out.x0; omega
   have hm : (r.a : Int) % 256 = (r.a : Int) := by omega
   go_upto_region 6 with (first | refine a25 ?_)
   (refine Zk 8 HM (by kernel_rfl) (by kernel_rfl) (by kernel_rfl) ?_; simp only [List.take_succ_cons, List.take_zero, List.drop_succ_cons, List.drop_zero]; (try simp only [Act.put, Ze, Zc, Zd]); repeat ((fail_if_success (with_reducible refine wpQuiet_nil ?_)); first | go_big_quiet_skip | (go_big_quiet_want; first | (refine a19 ?_; go_big_quiet_op; go_big_quiet_on) | (refine a20 ?_; go_big_quiet_op; go_big_quiet_on) | (refine a21 ?_; go_big_quiet_op; go_big_quiet_on) | ((with_reducible apply Zh); exact fun w => rfl; (focus (go_simp; all_goals with_reducible rfl)); (intro wq HQ; first | (with_reducible exact ZcZ q r.x0 HR.out.x0 _)); go_big_quiet_op; go_big_quiet_on) | (go_big_quiet_op; go_big_quiet_on) | (go_big_quiet_op; refine ⟨_, fun _ _ => rfl, ?_⟩; go_big_quiet_on))))
   refine wpQuiet_nil ?_
   intro w' HM'
   clear HM; have HM := HM'; clear HM'
   go_wp2_with (first | refine a6 ?_ | (refine b1 ?_; clear HM; intro w' HM) | (go_at_call 43; (with_reducible refine (ZcR r HR.out.a _).mono ?_); rintro e w' ⟨rfl, hb⟩; replace HM := Zb (HM.out.call hb); clear hb))
   go_roundw
   case rel => exact ⟨1, by omega, by go_num, by rw [HQ.out] at HM; exact HM⟩
   case measure => simp [intOf]
  ·change Hid (Own w _ [(g4, 9, swapNames), (g3, 25, (r.swapTo 0 (1)).cells), (g2, 25, rg0.cells), (g1, 25, r.cells)]) at HM
   obtain ⟨q, hq⟩ : ∃ q, q = r.swapTo 0 1 := ⟨_, rfl⟩
   rw [← hq] at HM
   have HQ := Zb hq
   clear hq
   have hb : (r.f : Int) < 256 := by have := HR.out.f; omega
   have hx : (r.x1 : Int) < 256 := by have := HR.out.x1; omega
   have hm : (r.f : Int) % 256 = (r.f : Int) := by omega
   go_upto_region 6 with (first | refine a25 ?_)
   (refine Zk 8 HM (by kernel_rfl) (by kernel_rfl) (by kernel_rfl) ?_; simp only [List.take_succ_cons, List.take_zero, List.drop_succ_cons, List.drop_zero]; (try simp only [Act.put, Ze, Zc, Zd]); repeat ((fail_if_success (with_reducible refine wpQuiet_nil ?_)); first | go_big_quiet_skip | (go_big_quiet_want; first | (refine a19 ?_; go_big_quiet_op; go_big_quiet_on) | (refine a20 ?_; go_big_quiet_op; go_big_quiet_on) | (refine a21 ?_; go_big_quiet_op; go_big_quiet_on) | ((with_reducible apply Zh); exact fun w => rfl; (focus (go_simp; all_goals with_reducible rfl)); (intro wq HQ; first | (with_reducible exact ZgD q r.x1 HR.out.x1 _)); go_big_quiet_op; go_big_quiet_on) | (go_big_quiet_op; go_big_quiet_on) | (go_big_quiet_op; refine ⟨_, fun _ _ => rfl, ?_⟩; go_big_quiet_on))))
   refine wpQuiet_nil ?_
   intro w' HM'
   clear HM; have HM := HM'; clear HM'
   go_wp2_with (first | refine a6 ?_ | (refine b1 ?_; clear HM; intro w' HM) | (go_at_call 43; (with_reducible refine (ZgC r HR.out.f _).mono ?_); rintro e w' ⟨rfl, hb⟩; replace HM := Zb (HM.out.call hb); clear hb))
   go_roundw
   case rel => exact ⟨2, by omega, by go_num, by rw [HQ.out] at HM; exact HM⟩
   case measure => simp [intOf]
  ·change Hid (Own w _ [(g4, 9, swapNames), (g3, 25, (r.swapTo 0 (2)).cells), (g2, 25, rg0.cells), (g1, 25, r.cells)]) at HM
   go_wp2_with (first | refine a25 ?_)
   go_roundw
   case rel => exact ⟨3, by omega, by go_num, HM⟩
   case measure => simp [intOf]
  ·change Hid (Own w _ [(g4, 9, swapNames), (g3, 25, (r.swapTo 0 (2)).cells), (g2, 25, rg0.cells), (g1, 25, r.cells)]) at HM
   go_wp2_with (first | refine a25 ?_)
   go_roundw
   case rel => exact ⟨4, by omega, by go_num, HM⟩
   case measure => simp [intOf]
  ·change Hid (Own w _ [(g4, 9, swapNames), (g3, 25, (r.swapTo 0 (2)).cells), (g2, 25, rg0.cells), (g1, 25, r.cells)]) at HM
   go_wp2_with (first | refine a25 ?_)
   go_roundw
   case rel => exact ⟨5, by omega, by go_num, HM⟩
   case measure => simp [intOf]
  ·change Hid (Own w _ [(g4, 9, swapNames), (g3, 25, (r.swapTo 0 (2)).cells), (g2, 25, rg0.cells), (g1, 25, r.cells)]) at HM
   go_wp2_with (first | refine a25 ?_)
   go_roundw
   case rel => exact ⟨6, by omega, by go_num, HM⟩
   case measure => simp [intOf]
  ·change Hid (Own w _ [(g4, 9, swapNames), (g3, 25, (r.swapTo 0 (2)).cells), (g2, 25, rg0.cells), (g1, 25, r.cells)]) at HM
   go_wp2_with (first | refine a25 ?_)
   go_roundw
   case rel => exact ⟨7, by omega, by go_num, HM⟩
   case measure => simp [intOf]
  ·change Hid (Own w _ [(g4, 9, swapNames), (g3, 25, (r.swapTo 0 (2)).cells), (g2, 25, rg0.cells), (g1, 25, r.cells)]) at HM
   go_wp2_with (first | refine a25 ?_)
   go_roundw
   case rel => exact ⟨8, by omega, by go_num, HM⟩
   case measure => simp [intOf]
  ·go_wp2_with (first | refine a6 ?_ | (refine a7 ?_; clear HM; intro w' HM))
   refine bodyPost_ret (v := .agg (r.swapTo 0 2).cells.toArray) (Zi HM Tryz.results100 _ rfl (by first | exact .z | exact .s .z | exact .s (.s .z)) aggR) rfl ⟨rfl, Own.fin HM⟩
theorem ZaS (r : Rg) (hr : r.Fits) (w : World) : Calls Tryz.prog 100 #[r.v, .bool true] w fun e w' => e = .returned (r.swap true).v ∧ Below w.heap.size w w' := by
 have tg3 : Hid True := trivial
 have tg4 : Hid True := trivial
 have HR := Zb hr
 clear hr
 have HM := Zb (Own.start w)
 have tg1 : Hid True := trivial
 have tg2 : Hid True := trivial
 go_enter Tryz.func100, Tryz.ntmps100
 go_wp2_with (first | (refine b0 ?_; (first | (clear tg1 HM; intro w' g1 HM) | (clear tg2 HM; intro w' g2 HM) | (clear tg3 HM; intro w' g3 HM) | (clear tg4 HM; intro w' g4 HM) | (clear HM; intro w' g' HM))) | refine a6 ?_ | (refine a7 ?_; clear HM; intro w' HM) | ((with_reducible apply Yc (cs := swapNames) (e := 9) (n := 8) HM); exact rfl; exact Zlu; (focus (go_simp; done)); exact rfl; (first | (clear tg1 HM; intro w' g1 HM) | (clear tg2 HM; intro w' g2 HM) | (clear tg3 HM; intro w' g3 HM) | (clear tg4 HM; intro w' g4 HM))))
 change Hid (Own w _ [(g4, 9, swapNames), (g3, 25, r.cells), (g2, 25, rg0.cells), (g1, 25, r.cells)]) at HM
 go_loopw [11] (fun i wr => ∃ k : Nat, k ≤ 8 ∧ i = .int .i64 (k : Int) ∧ Hid (Own w wr [(g4, 9, swapNames), (g3, 25, (r.swapTo 2 (k - 2)).cells), (g2, 25, rg0.cells), (g1, 25, r.cells)])) (fun i _ => 8 - (intOf i).toNat)
 case atStart => exact ⟨0, by omega, rfl, HM⟩
 case round =>
  clear HM
  obtain ⟨k, hk, rfl, HM⟩ := hrel
  rcases (show k = 0 ∨ k = 1 ∨ k = 2 ∨ k = 3 ∨ k = 4 ∨ k = 5 ∨ k = 6 ∨ k = 7 ∨ k = 8 by omega) with rfl | rfl | rfl | rfl | rfl | rfl | rfl | rfl | rfl
  ·change Hid (Own w _ [(g4, 9, swapNames), (g3, 25, (r.swapTo 2 (0)).cells), (g2, 25, rg0.cells), (g1, 25, r.cells)]) at HM
   go_wp2_with (first | refine a25 ?_)
   go_roundw
   case rel => exact ⟨1, by omega, by go_num, HM⟩
   case measure => simp [intOf]
  ·change Hid (Own w _ [(g4, 9, swapNames), (g3, 25, (r.swapTo 2 (0)).cells), (g2, 25, rg0.cells), (g1, 25, r.cells)]) at HM
   go_wp2_with (first | refine a25 ?_)
   go_roundw
   case rel => exact ⟨2, by omega, by go_num, HM⟩
   case measure => simp [intOf]
  ·change Hid (Own w _ [(g4, 9, swapNames), (g3, 25, (r.swapTo 2 (0)).cells), (g2, 25, rg0.cells), (g1, 25, r.cells)]) at HM
   obtain ⟨q, hq⟩ : ∃ q, q = r.swapTo 2 0 := ⟨_, rfl⟩
   rw [← hq] at HM
   have HQ := Zb hq
   clear hq
   have hb : (r.b : Int) < 256 := by have := HR.out.b; omega
   have hx : (r.x2 : Int) < 256 := by have := HR.out.x2; omega
   have hm : (r.b : Int) % 256 = (r.b : Int) := by omega
   go_upto_region 6 with (first | refine a25 ?_)
   (refine Zk 8 HM (by kernel_rfl) (by kernel_rfl) (by kernel_rfl) ?_; simp only [List.take_succ_cons, List.take_zero, List.drop_succ_cons, List.drop_zero]; (try simp only [Act.put, Ze, Zc, Zd]); repeat ((fail_if_success (with_reducible refine wpQuiet_nil ?_)); first | go_big_quiet_skip | (go_big_quiet_want; first | (refine a19 ?_; go_big_quiet_op; go_big_quiet_on) | (refine a20 ?_; go_big_quiet_op; go_big_quiet_on) | (refine a21 ?_; go_big_quiet_op; go_big_quiet_on) | ((with_reducible apply Zh); exact fun w => rfl; (focus (go_simp; all_goals with_reducible rfl)); (intro wq HQ; first | (with_reducible exact Zc0 q r.x2 HR.out.x2 _)); go_big_quiet_op; go_big_quiet_on) | (go_big_quiet_op; go_big_quiet_on) | (go_big_quiet_op; refine ⟨_, fun _ _ => rfl, ?_⟩; go_big_quiet_on))))
   refine wpQuiet_nil ?_
   intro w' HM'
   clear HM; have HM := HM'; clear HM'
   go_wp2_with (first | refine a6 ?_ | (refine b1 ?_; clear HM; intro w' HM) | (go_at_call 43; (with_reducible refine (ZcS r HR.out.b _).mono ?_); rintro e w' ⟨rfl, hb⟩; replace HM := Zb (HM.out.call hb); clear hb))
   go_roundw
   case rel => exact ⟨3, by omega, by go_num, by rw [HQ.out] at HM; exact HM⟩
   case measure => simp [intOf]
  ·change Hid (Own w _ [(g4, 9, swapNames), (g3, 25, (r.swapTo 2 (1)).cells), (g2, 25, rg0.cells), (g1, 25, r.cells)]) at HM
   obtain ⟨q, hq⟩ : ∃ q, q = r.swapTo 2 1 := ⟨_, rfl⟩
   rw [← hq] at HM
   have HQ := Zb hq
   clear hq
   have hb : (r.c : Int) < 256 := by have := HR.out.c; omega
   have hx : (r.x3 : Int) < 256 := by have := HR.out.x3; omega
   have hm : (r.c : Int) % 256 = (r.c : Int) := by omega
   go_upto_region 6 with (first | refine a25 ?_)
   (refine Zk 8 HM (by kernel_rfl) (by kernel_rfl) (by kernel_rfl) ?_; simp only [List.take_succ_cons, List.take_zero, List.drop_succ_cons, List.drop_zero]; (try simp only [Act.put, Ze, Zc, Zd]); repeat ((fail_if_success (with_reducible refine wpQuiet_nil ?_)); first | go_big_quiet_skip | (go_big_quiet_want; first | (refine a19 ?_; go_big_quiet_op; go_big_quiet_on) | (refine a20 ?_; go_big_quiet_op; go_big_quiet_on) | (refine a21 ?_; go_big_quiet_op; go_big_quiet_on) | ((with_reducible apply Zh); exact fun w => rfl; (focus (go_simp; all_goals with_reducible rfl)); (intro wq HQ; first | (with_reducible exact Zc1 q r.x3 HR.out.x3 _)); go_big_quiet_op; go_big_quiet_on) | (go_big_quiet_op; go_big_quiet_on) | (go_big_quiet_op; refine ⟨_, fun _ _ => rfl, ?_⟩; go_big_quiet_on))))
   refine wpQuiet_nil ?_
   intro w' HM'
   clear HM; have HM := HM'; clear HM'
   go_wp2_with (first | refine a6 ?_ | (refine b1 ?_; clear HM; intro w' HM) | (go_at_call 43; (with_reducible refine (ZcT r HR.out.c _).mono ?_); rintro e w' ⟨rfl, hb⟩; replace HM := Zb (HM.out.call hb); clear hb))
   go_roundw
   case rel => exact ⟨4, by omega, by go_num, by rw [HQ.out] at HM; exact HM⟩
   case measure => simp [intOf]
  ·change Hid (Own w _ [(g4, 9, swapNames), (g3, 25, (r.swapTo 2 (2)).cells), (g2, 25, rg0.cells), (g1, 25, r.cells)]) at HM
   obtain ⟨q, hq⟩ : ∃ q, q = r.swapTo 2 2 := ⟨_, rfl⟩
   rw [← hq] at HM
   have HQ := Zb hq
   clear hq
   have hb : (r.d : Int) < 256 := by have := HR.out.d; omega
   have hx : (r.x4 : Int) < 256 := by have := HR.out.x4; omega
   have hm : (r.d : Int) % 256 = (r.d : Int) := by omega
   go_upto_region 6 with (first | refine a25 ?_)
   (refine Zk 8 HM (by kernel_rfl) (by kernel_rfl) (by kernel_rfl) ?_; simp only [List.take_succ_cons, List.take_zero, List.drop_succ_cons, List.drop_zero]; (try simp only [Act.put, Ze, Zc, Zd]); repeat ((fail_if_success (with_reducible refine wpQuiet_nil ?_)); first | go_big_quiet_skip | (go_big_quiet_want; first | (refine a19 ?_; go_big_quiet_op; go_big_quiet_on) | (refine a20 ?_; go_big_quiet_op; go_big_quiet_on) | (refine a21 ?_; go_big_quiet_op; go_big_quiet_on) | ((with_reducible apply Zh); exact fun w => rfl; (focus (go_simp; all_goals with_reducible rfl)); (intro wq HQ; first | (with_reducible exact Zc2 q r.x4 HR.out.x4 _)); go_big_quiet_op; go_big_quiet_on) | (go_big_quiet_op; go_big_quiet_on) | (go_big_quiet_op; refine ⟨_, fun _ _ => rfl, ?_⟩; go_big_quiet_on))))
   refine wpQuiet_nil ?_
   intro w' HM'
   clear HM; have HM := HM'; clear HM'
   go_wp2_with (first | refine a6 ?_ | (refine b1 ?_; clear HM; intro w' HM) | (go_at_call 43; (with_reducible refine (ZcU r HR.out.d _).mono ?_); rintro e w' ⟨rfl, hb⟩; replace HM := Zb (HM.out.call hb); clear hb))
   go_roundw
   case rel => exact ⟨5, by omega, by go_num, by rw [HQ.out] at HM; exact HM⟩
   case measure => simp [intOf]
  ·change Hid (Own w _ [(g4, 9, swapNames), (g3, 25, (r.swapTo 2 (3)).cells), (g2, 25, rg0.cells), (g1, 25, r.cells)]) at HM
   obtain ⟨q, hq⟩ : ∃ q, q = r.swapTo 2 3 := ⟨_, rfl⟩
   rw [← hq] at HM
   have HQ := Zb hq
   clear hq
   have hb : (r.e : Int) < 256 := by have := HR.out.e; omega
   have hx : (r.x5 : Int) < 256 := by have := HR.out.x5; omega
   have hm : (r.e : Int) % 256 = (r.e : Int) := by omega
   go_upto_region 6 with (first | refine a25 ?_)
   (refine Zk 8 HM (by kernel_rfl) (by kernel_rfl) (by kernel_rfl) ?_; simp only [List.take_succ_cons, List.take_zero, List.drop_succ_cons, List.drop_zero]; (try simp only [Act.put, Ze, Zc, Zd]); repeat ((fail_if_success (with_reducible refine wpQuiet_nil ?_)); first | go_big_quiet_skip | (go_big_quiet_want; first | (refine a19 ?_; go_big_quiet_op; go_big_quiet_on) | (refine a20 ?_; go_big_quiet_op; go_big_quiet_on) | (refine a21 ?_; go_big_quiet_op; go_big_quiet_on) | ((with_reducible apply Zh); exact fun w => rfl; (focus (go_simp; all_goals with_reducible rfl)); (intro wq HQ; first | (with_reducible exact Zc3 q r.x5 HR.out.x5 _)); go_big_quiet_op; go_big_quiet_on) | (go_big_quiet_op; go_big_quiet_on) | (go_big_quiet_op; refine ⟨_, fun _ _ => rfl, ?_⟩; go_big_quiet_on))))
   refine wpQuiet_nil ?_
   intro w' HM'
   clear HM; have HM := HM'; clear HM'
   go_wp2_with (first | refine a6 ?_ | (refine b1 ?_; clear HM; intro w' HM) | (go_at_call 43; (with_reducible refine (ZcV r HR.out.e _).mono ?_); rintro e w' ⟨rfl, hb⟩; replace HM := Zb (HM.out.call hb); clear hb))
   go_roundw
   case rel => exact ⟨6, by omega, by go_num, by rw [HQ.out] at HM; exact HM⟩
   case measure => simp [intOf]
  ·change Hid (Own w _ [(g4, 9, swapNames), (g3, 25, (r.swapTo 2 (4)).cells), (g2, 25, rg0.cells), (g1, 25, r.cells)]) at HM
   obtain ⟨q, hq⟩ : ∃ q, q = r.swapTo 2 4 := ⟨_, rfl⟩
   rw [← hq] at HM
   have HQ := Zb hq
   clear hq
   have hb : (r.h : Int) < 256 := by have := HR.out.h; omega
   have hx : (r.x6 : Int) < 256 := by have := HR.out.x6; omega
   have hm : (r.h : Int) % 256 = (r.h : Int) := by omega
   go_upto_region 6 with (first | refine a25 ?_)
   (refine Zk 8 HM (by kernel_rfl) (by kernel_rfl) (by kernel_rfl) ?_; simp only [List.take_succ_cons, List.take_zero, List.drop_succ_cons, List.drop_zero]; (try simp only [Act.put, Ze, Zc, Zd]); repeat ((fail_if_success (with_reducible refine wpQuiet_nil ?_)); first | go_big_quiet_skip | (go_big_quiet_want; first | (refine a19 ?_; go_big_quiet_op; go_big_quiet_on) | (refine a20 ?_; go_big_quiet_op; go_big_quiet_on) | (refine a21 ?_; go_big_quiet_op; go_big_quiet_on) | ((with_reducible apply Zh); exact fun w => rfl; (focus (go_simp; all_goals with_reducible rfl)); (intro wq HQ; first | (with_reducible exact Zc4 q r.x6 HR.out.x6 _)); go_big_quiet_op; go_big_quiet_on) | (go_big_quiet_op; go_big_quiet_on) | (go_big_quiet_op; refine ⟨_, fun _ _ => rfl, ?_⟩; go_big_quiet_on))))
   refine wpQuiet_nil ?_
   intro w' HM'
   clear HM; have HM := HM'; clear HM'
   go_wp2_with (first | refine a6 ?_ | (refine b1 ?_; clear HM; intro w' HM) | (go_at_call 43; (with_reducible refine (ZcW r HR.out.h _).mono ?_); rintro e w' ⟨rfl, hb⟩; replace HM := Zb (HM.out.call hb); clear hb))
   go_roundw
   case rel => exact ⟨7, by omega, by go_num, by rw [HQ.out] at HM; exact HM⟩
   case measure => simp [intOf]
  ·change Hid (Own w _ [(g4, 9, swapNames), (g3, 25, (r.swapTo 2 (5)).cells), (g2, 25, rg0.cells), (g1, 25, r.cells)]) at HM
   obtain ⟨q, hq⟩ : ∃ q, q = r.swapTo 2 5 := ⟨_, rfl⟩
   rw [← hq] at HM
   have HQ := Zb hq
   clear hq
   have hb : (r.l : Int) < 256 := by have := HR.out.l; omega
   have hx : (r.x7 : Int) < 256 := by have := HR.out.x7; omega
   have hm : (r.l : Int) % 256 = (r.l : Int) := by omega
   go_upto_region 6 with (first | refine a25 ?_)
   (refine Zk 8 HM (by kernel_rfl) (by kernel_rfl) (by kernel_rfl) ?_; simp only [List.take_succ_cons, List.take_zero, List.drop_succ_cons, List.drop_zero]; (try simp only [Act.put, Ze, Zc, Zd]); repeat ((fail_if_success (with_reducible refine wpQuiet_nil ?_)); first | go_big_quiet_skip | (go_big_quiet_want; first | (refine a19 ?_; go_big_quiet_op; go_big_quiet_on) | (refine a20 ?_; go_big_quiet_op; go_big_quiet_on) | (refine a21 ?_; go_big_quiet_op; go_big_quiet_on) | ((with_reducible apply Zh); exact fun w => rfl; (focus (go_simp; all_goals with_reducible rfl)); (intro wq HQ; first | (with_reducible exact Zc5 q r.x7 HR.out.x7 _)); go_big_quiet_op; go_big_quiet_on) | (go_big_quiet_op; go_big_quiet_on) | (go_big_quiet_op; refine ⟨_, fun _ _ => rfl, ?_⟩; go_big_quiet_on))))
   refine wpQuiet_nil ?_
   intro w' HM'
   clear HM; have HM := HM'; clear HM'
   go_wp2_with (first | refine a6 ?_ | (refine b1 ?_; clear HM; intro w' HM) | (go_at_call 43; (with_reducible refine (ZcX r HR.out.l _).mono ?_); rintro e w' ⟨rfl, hb⟩; replace HM := Zb (HM.out.call hb); clear hb))
   go_roundw
   case rel => exact ⟨8, by omega, by go_num, by rw [HQ.out] at HM; exact HM⟩
   case measure => simp [intOf]
  ·go_wp2_with (first | refine a6 ?_ | (refine a7 ?_; clear HM; intro w' HM))
   refine bodyPost_ret (v := .agg (r.swapTo 2 6).cells.toArray) (Zi HM Tryz.results100 _ rfl (by first | exact .z | exact .s .z | exact .s (.s .z)) aggR) rfl ⟨rfl, Own.fin HM⟩
theorem ask_info : (Tryz.prog.info? 155).map (fun i => (i.zero, i.size, i.bytes)) = some (some (.agg #[.bool false, .int .u16 0, .int .u8 0, .int .i64 0]), 4, 16) := by kernel_rfl
theorem ask_parts : ∃ i : TypeInfo, Tryz.prog.info? 155 = some i ∧ i.zero = some (.agg #[.bool false, .int .u16 0, .int .u8 0, .int .i64 0]) ∧ i.size = 4 ∧ i.bytes = 16 := by
 have h := ask_info
 cases hq : Tryz.prog.info? 155 with
 | none => rw [hq] at h; simp at h
 | some i => rw [hq] at h; simp at h; exact ⟨i, rfl, h.1, h.2.1, h.2.2⟩
theorem yT (y : Bool) (p v t : Int) (w : World) : (Instr.buildSlice 41 1 #[(0, .agg #[.bool y, .int .u16 p, .int .u8 v, .int .i64 t])]).run Tryz.prog w = .ok (.slice (some ⟨w.heap.size, 0, none⟩) 1 1) (w.alloc (.cells [Value.bool y, .int .u16 p, .int .u8 v, .int .i64 t].toArray 155)) := by kernel_rfl
theorem Zdr (p v t : Int) (w : World) : (Instr.build 155 #[(0, .bool true), (1, .int .u16 p), (2, .int .u8 v), (3, .int .i64 t)]).run Tryz.prog w = .ok (.agg #[.bool true, .int .u16 p, .int .u8 v, .int .i64 t]) w := by kernel_rfl
theorem Zft (p t : Int) (w : World) : (Instr.build 155 #[(1, .int .u16 p), (3, .int .i64 t)]).run Tryz.prog w = .ok (.agg #[.bool false, .int .u16 p, .int .u8 0, .int .i64 t]) w := by kernel_rfl
theorem ZaT {P : Program} {w : World} {ops : Array Oper} {rest : List Oper} {o : Oper} {a : Act} {Q : Exit → Act → World → Prop} {t : TypeId} {i j k l : Nat} {x y z u : Operand} {vx vy vz vu v : Value} (hx : ∀ w, (Instr.build t #[(i, vx), (j, vy), (k, vz), (l, vu)]).run P w = .ok v w)
  (ho : o.op = .build t #[(i, x), (j, y), (k, z), (l, u)]) (h1 : a.eval x = vx) (h2 : a.eval y = vy) (h3 : a.eval z = vz) (h4 : a.eval u = vu) (hw : Region.wanted o (yielded ops a.tmps) = true) (h : wpList P ops Q rest (a.put o.dst v) w) : wpList P ops Q (o :: rest) a w :=
 Vv hx ho (by simp [h1, h2, h3, h4]) hw h
theorem Zds {ops : Array Oper} {rest : List Oper} {o : Oper} {a : Act} {Q : Exit → Act → World → Prop} {g3 n : Nat} {t3 : TypeId} {L R : Zj} {v : Value} {xs : List Value} {c0 c1 c2 c3 : Value} {s y : Operand}
  (HM : Hid (Own W0 w l)) (hp : l.Perm ((g3, t3, [c0, c1, c2, c3]) :: (L ++ R))) (HR : Yv 155 4 R v n xs) (hu : ([c0, c1, c2, c3] : List Value).all (·.oneCell') = true) (hn : n ≤ 1000000) (hgd : o.guard = none)
  (ho : o.op = .call { callee := .builtin .append, args := #[s, y], argTypes := #[41, 41] }) (hs : a.eval s = v) (hy : a.eval y = .slice (some ⟨g3, 0, none⟩) 1 1)
  (h : ∀ gg cap w' R', Yv 155 4 R' (.slice (some ⟨gg, 0, none⟩) (n + 1) cap) (n + 1) (xs ++ [c0, c1, c2, c3]) → Hid (Own W0 w' (L ++ R')) → wpList Tryz.prog ops Q rest (a.put o.dst (.slice (some ⟨gg, 0, none⟩) (n + 1) cap)) w') : wpList Tryz.prog ops Q (o :: rest) a w := by
 obtain ⟨i0, hi, hz0, hz1, hz2⟩ := ask_parts
 exact j6 HM hp HR hgd ho hs hy hu rfl hn (by decide) Tryz.underlying41 hi hz0 hz1 hz2 rfl (by decide) h
theorem oneAsks : One Tryz.prog 41 := ⟨⟨_, Tryz.underlying41, rfl⟩, by kernel_rfl⟩
theorem yU {e1 e2 e3 : Nat × TypeId × List Value} {Ra l R : Zj} : (e3 :: e1 :: e2 :: ((Ra ++ l) ++ R)).Perm (e3 :: ((e1 :: e2 :: (l ++ R)) ++ Ra)) := by
 refine .cons _ ?_
 simp only [List.cons_append]
 refine .cons _ (.cons _ ?_)
 rw [List.append_assoc]
 exact List.perm_append_comm
theorem Fx.back2 {b n gm N na : Nat} {m : Nat → Nat} {g : List Int} {l R Ra : Zj} {lv av : Value} {xs : List Value} (h8 : ∀ i, m i < 256) (hl : g.length + n ≤ 1000000) (hN : N = 65536) (hR : Yv 3 1 R lv g.length (zE g)) (hA : na ≤ g.length ∧ Yv 155 4 Ra av na xs)
  (h : Own W0 w ((b, 43, [.slice (some ⟨gm, 0, none⟩) N N, .pointer none, lv, .bool false, .int .u8 0, av]) :: (gm, 5, Zz m) :: ((l ++ R) ++ Ra))) : Fx W0 w b ⟨m, g⟩ l n := by
 refine Fx.back h8 hl hN hR hA (h.perm (.cons _ (.cons _ ?_)))
 refine List.Perm.trans ?_ (List.perm_append_comm (l₁ := R))
 rw [List.append_assoc]
 refine (List.perm_append_comm (l₁ := l)).trans ?_
 rw [List.append_assoc]
theorem yV {na : Nat} {g : List Int} {x : Int} {p q : Prop} (h : na ≤ g.length ∧ p) (hq : q) : na + 1 ≤ (g ++ [x]).length ∧ q := ⟨by rw [List.length_append]; exact Nat.add_le_add_right h.1 1, hq⟩
theorem UT {u : U} (p v t : Nat) (hp : p < 65536) (hv : v < 256) (ht : t < 64) (h : Hid (Fx W0 w b u l (n + 1))) :
  CX 102 #[.pointer (some ⟨b, 0, none⟩), .int .u16 (p : Int), .int .u8 (v : Int), .int .i64 (t : Int)] w (.tuple #[]) fun w' => Hid (Fx W0 w' b (u.op p v t) l n) := by
 obtain ⟨m, g⟩ := u
 obtain ⟨h8, hl, gm, lv, R, N, av, Ra, na, xs, hN, hR, hAs, hO⟩ := h.out.out
 have H8 := Zb h8
 have HR := Zb hR
 have HAS := Zb hAs
 have HM := Zb hO
 have HNN := Zb hN
 have HN : Hid (g.length + 1 ≤ 1000000) := Zb (by omega)
 have HNA : Hid (na ≤ 1000000) := Zb (by have := hAs.1; omega)
 have HL := Zb hl
 have hsn := @JA gm N
 have hp2 : (p : Int) < 65536 := by omega
 have hv2 : (v : Int) < 256 := by omega
 have ht2 : (t : Int) < 64 := by omega
 clear hp hv ht
 clear h h8 hR hO hl hN hAs
 have tg1 : Hid True := trivial
 have tg2 : Hid True := trivial
 go_enter Tryz.func102, Tryz.ntmps102
 go_upto_region 1 with (first | (refine a0 ?_; (first | (clear tg1 HM; intro w' g1 HM) | (clear tg2 HM; intro w' g2 HM) | (clear HM; intro w' g' HM))) | refine a38 ?_ | (refine a39 ?_; clear HM; intro w' HM) | (refine a67 ?_; clear tg1; intro w' g1 HM'; clear HM; have HM := HM'; clear HM') | (refine Y7 (x := (1000000000 + ((p : Int) * 64 + (t : Int)) * 256 + (v : Int))) (L := _ :: _ :: (Ra ++ l)) HM (((List.perm_append_comm.cons _).cons _).cons _) HR HN rfl rfl rfl rfl ?_; intro gg cap w1 R1 HR' HM'; clear HM HR; have HM : Hid (Own W0 w1 (_ :: _ :: ((Ra ++ l) ++ R1))) := HM'; have HR := HR'; clear HM' HR'))
 clear hp2 hv2 ht2
 go_wp2_with (first | (refine a0 ?_; (first | (clear tg1 HM; intro w' g1 HM) | (clear tg2 HM; intro w' g2 HM) | (clear HM; intro w' g' HM))) | refine a38 ?_ | (refine a39 ?_; clear HM; intro w' HM) | ((with_reducible refine ZaT (Zdr (p : Int) (v : Int) (t : Int)) rfl rfl rfl rfl rfl rfl ?_)) | ((with_reducible apply Yc (cs := [.bool true, .int .u16 (p : Int), .int .u8 (v : Int), .int .i64 (t : Int)]) (e := 155) (n := 1) HM); exact rfl; exact yT true (p : Int) (v : Int) (t : Int); (focus (go_simp; done)); exact rfl; clear tg2; intro w' g2 HM'; clear HM; have HM := HM'; clear HM') | (refine Zds (c0 := .bool true) (c1 := .int .u16 (p : Int)) (c2 := .int .u8 (v : Int)) (c3 := .int .i64 (t : Int)) (L := _ :: _ :: (l ++ R1)) HM yU HAS.out.2 rfl HNA.out rfl rfl rfl rfl ?_; intro gg2 cap2 w2 Ra2 hA' HM'; clear HM; have HM : Hid (Own W0 w2 (_ :: _ :: ((l ++ R1) ++ Ra2))) := HM'; have HA2 := Zb hA'; clear HM' hA'))
 (first | go_end0 | ((try simp only [Exit.inBlock, Exit.then]); refine bodyPost_ret (results_none rfl _ _ _) rfl ?_))
 exact ⟨rfl, (Fx.back2 H8.out (n := n) (Ji HL.out) HNN.out HR.out (yV HAS.out HA2.out) HM.out)⟩
theorem jN {u : U} (p t : Nat) (hp : p < 65536) (ht : t < 64) (h : Hid (Fx W0 w b u l (n + 1))) :
  CX 103 #[.pointer (some ⟨b, 0, none⟩), .int .u16 (p : Int), .int .i64 (t : Int)] w (.int .u8 (u.ipV p t : Int)) fun w' => Hid (Fx W0 w' b (u.ip p t) l n) := by
 obtain ⟨m, g⟩ := u
 obtain ⟨h8, hl, gm, lv, R, N, av, Ra, na, xs, hN, hR, hAs, hO⟩ := h.out.out
 have H8 := Zb h8
 have HR := Zb hR
 have HAS := Zb hAs
 have HM := Zb hO
 have HNN := Zb hN
 have HN : Hid (g.length + 1 ≤ 1000000) := Zb (by omega)
 have HNA : Hid (na ≤ 1000000) := Zb (by have := hAs.1; omega)
 have HL := Zb hl
 have hsn := @JA gm N
 have hp2 : (p : Int) < 65536 := by omega
 have ht2 : (t : Int) < 64 := by omega
 obtain ⟨V, hV⟩ : ∃ V : Nat, Hid ((p * 7 + (g.length + 1) * 13) % 256 = V) := ⟨_, rfl⟩
 have eV : U.ipV ⟨m, g⟩ p t = V := hV.out
 rw [eV]
 have e1 : IntKind.u8.wrap ((p : Int) * 7 + ((g.length : Int) + 1) * 13) = (V : Int) := by rw [IntKind.wrap_u8]; have := hV.out; omega
 have gl : (g.length : Int) + 1 ≤ 1000000 := by omega
 have HGL := Zb gl
 have HE1 := Zb e1
 have HP2 := Zb hp2
 clear hp ht
 clear h h8 hR hO hl hN hAs
 have tg1 : Hid True := trivial
 have tg2 : Hid True := trivial
 go_enter Tryz.func103, Tryz.ntmps103
 go_upto_region 2 with (first | (refine a0 ?_; (first | (clear tg1 HM; intro w' g1 HM) | (clear tg2 HM; intro w' g2 HM) | (clear HM; intro w' g' HM))) | refine a38 ?_ | (refine a39 ?_; clear HM; intro w' HM) | (refine a68 ?_; clear tg1; intro w' g1 HM'; clear HM; have HM := HM'; clear HM') | (refine Y7 (x := (100000000 + (p : Int) * 64 + (t : Int))) (L := _ :: _ :: (Ra ++ l)) HM (((List.perm_append_comm.cons _).cons _).cons _) HR HN rfl rfl rfl rfl ?_; intro gg cap w1 R1 HR' HM'; clear HM HR; have HM : Hid (Own W0 w1 (_ :: _ :: ((Ra ++ l) ++ R1))) := HM'; have HR := HR'; clear HM' HR'))
 clear hp2 ht2 gl e1 eV
 go_upto_region 4 with (first | (refine a0 ?_; (first | (clear tg1 HM; intro w' g1 HM) | (clear tg2 HM; intro w' g2 HM) | (clear HM; intro w' g' HM))) | refine a38 ?_ | (refine a39 ?_; clear HM; intro w' HM) | ((with_reducible refine KE (Zft (p : Int) (t : Int)) rfl rfl rfl rfl ?_)) | ((with_reducible apply Yc (cs := [.bool false, .int .u16 (p : Int), .int .u8 0, .int .i64 (t : Int)]) (e := 155) (n := 1) HM); exact rfl; exact yT false (p : Int) 0 (t : Int); (focus (go_simp; done)); exact rfl; clear tg2; intro w' g2 HM'; clear HM; have HM := HM'; clear HM') | (refine Zds (c0 := .bool false) (c1 := .int .u16 (p : Int)) (c2 := .int .u8 0) (c3 := .int .i64 (t : Int)) (L := _ :: _ :: (l ++ R1)) HM yU HAS.out.2 rfl HNA.out rfl rfl rfl rfl ?_; intro gg2 cap2 w2 Ra2 hA' HM'; clear HM; have HM : Hid (Own W0 w2 (_ :: _ :: ((l ++ R1) ++ Ra2))) := HM'; have HA2 := Zb hA'; clear HM' hA'))
 have hp2 := HP2.out
 have gl := HGL.out
 have e1 := HE1.out
 go_wp2_with (first | (refine a0 ?_; (first | (clear tg1 HM; intro w' g1 HM) | (clear tg2 HM; intro w' g2 HM) | (clear HM; intro w' g' HM))) | refine a38 ?_ | (refine a39 ?_; clear HM; intro w' HM))
 go_ret
 exact ⟨rfl, (Fx.back2 H8.out (n := n) (Ji HL.out) HNN.out HR.out (yV HAS.out HA2.out) HM.out)⟩
end
end Go.Proofs.YtgdeeiimkhjfiaaGreatDoor
