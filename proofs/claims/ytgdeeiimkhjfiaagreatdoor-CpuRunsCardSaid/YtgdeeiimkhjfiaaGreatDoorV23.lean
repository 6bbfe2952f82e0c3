import Derived.Test.YtgdeeiimkhjfiaaGreatDoorV22
set_option maxRecDepth 100000
set_option maxHeartbeats 6400000
namespace Go.Proofs.YtgdeeiimkhjfiaaGreatDoor
open Go.RowKit
section
variable {W0 w : World} {x b tq n c : Nat} {s : Cs} {ix : Bool} {pg : Int} {l : Zj}
section
variable {P : Program} {W0 w : World} {ops : Array Oper} {rest : List Oper} {o : Oper} {a : Act}
theorem Zff {t : TypeId} (ht : P.underlying t = some .string) (s : List UInt8) (k : Nat) (kd : IntKind) (hk : k < s.length) (w : World) : (Instr.index t (.string ⟨s.toArray⟩) (.int kd (k : Int))).run P w = .ok (.int .u8 ((s.getD k 0).toNat : Int)) w := by
 have hs : (⟨s.toArray⟩ : ByteArray).size = s.length := by simp [ByteArray.size]
 have h2 : k < (⟨s.toArray⟩ : ByteArray).size := by rw [hs]; exact hk
 have e : (⟨s.toArray⟩ : ByteArray)[k]'h2 = s.getD k 0 := by
  rw [List.getD_eq_getElem?_getD, List.getElem?_eq_getElem hk]
  show s.toArray[k] = s[k]
  simp
 rw [run_index_string _ t ⟨s.toArray⟩ kd (k : Int) ht, dif_pos ⟨by omega, by rw [hs]; omega⟩]
 simp only [Int.toNat_natCast, e]
theorem ze {t : TypeId} (ht : P.underlying t = some .string) (s : List UInt8) (i j : Nat) (k1 k2 : IntKind) (hi : i ≤ j) (hj : j ≤ s.length) (w : World) : (Instr.sliceAt t (.string ⟨s.toArray⟩) (some (.int k1 (i : Int))) (some (.int k2 (j : Int))) none).run P w = .ok (.string ⟨((s.drop i).take (j - i)).toArray⟩) w := by
 have hs : (⟨s.toArray⟩ : ByteArray).size = s.length := by simp [ByteArray.size]
 have e : (⟨s.toArray⟩ : ByteArray).extract i j = ⟨((s.drop i).take (j - i)).toArray⟩ := by
  apply ByteArray.ext
  simp [List.extract_eq_take_drop]
 rw [run_sliceAt_string _ t _ _ _ _ ht, run_slice_string _ t _ k1 k2 (i : Int) (j : Int) ht (by omega) (by omega) (by rw [hs]; omega)]
 simp only [Int.toNat_natCast, e]
theorem J6 {Q : Exit → Act → World → Prop} {t : TypeId} (ht : P.underlying t = some .string) {x y : Operand} {s : List UInt8} {k : Nat} {kd : IntKind} (ho : o.op = .index t x y) (hx : a.eval x = .string ⟨s.toArray⟩) (hy : a.eval y = .int kd (k : Int)) (hk : k < s.length)
  (hw : Region.wanted o (yielded ops a.tmps) = true) (h : wpList P ops Q rest (a.put o.dst (.int .u8 ((s.getD k 0).toNat : Int))) w) : wpList P ops Q (o :: rest) a w := by
 refine Zp hw fun K hK => ?_
 unfold Oper.wp execOp
 simp only [ho, hx, hy, Sem.run_bind, Zff ht s k kd hk, Sem.run_pure, Result.andThen_ok]
 exact hK _ _ h
theorem Ym {Q : Exit → Act → World → Prop} {t : TypeId} (ht : P.underlying t = some .string) {x y z : Operand} {s r : List UInt8} {i j : Nat} {k1 k2 : IntKind} (ho : o.op = .slice t x (some y) (some z) none) (hx : a.eval x = .string ⟨s.toArray⟩) {I J : Int} (hy : a.eval y = .int k1 I) (hz : a.eval z = .int k2 J) (hI : I = (i : Int)) (hJ : J = (j : Int)) (hi : i ≤ j) (hj : j ≤ s.length)
  (hr : (s.drop i).take (j - i) = r) (hw : Region.wanted o (yielded ops a.tmps) = true) (h : wpList P ops Q rest (a.put o.dst (.string ⟨r.toArray⟩)) w) : wpList P ops Q (o :: rest) a w := by
 subst hr hI hJ
 refine Zp hw fun K hK => ?_
 unfold Oper.wp execOp
 simp only [ho, hx, hy, hz, Option.map_some, Option.map_none, Sem.run_bind, ze ht s i j k1 k2 hi hj, Sem.run_pure, Result.andThen_ok]
 exact hK _ _ h
theorem jD {C : World → Prop} {K : Act → Prop} {dst : Option Tmp} {t ty0 : TypeId} {pos : String} {aft : Array Edge} {gd : Option (Nat × Bool)} (ht : P.underlying t = some .string) {x y z : Operand} {s r : List UInt8} {i j : Nat} {k1 k2 : IntKind} (hx : a.eval x = .string ⟨s.toArray⟩) {I J : Int} (hy : a.eval y = .int k1 I) (hz : a.eval z = .int k2 J) (hI : I = (i : Int)) (hJ : J = (j : Int)) (hi : i ≤ j) (hj : j ≤ s.length)
  (hr : (s.drop i).take (j - i) = r) (h : Oper.quiet P ⟨dst, .move (.const (.string ⟨r.toArray⟩)), ty0, pos, aft, gd⟩ a C K) : Oper.quiet P ⟨dst, .slice t x (some y) (some z) none, ty0, pos, aft, gd⟩ a C K := by
 subst hr hI hJ
 refine YK (fun w _ => ?_) h
 unfold execOp
 simp only [hx, hy, hz, Option.map_some, Option.map_none, Sem.run_bind, ze ht s i j k1 k2 hi hj, Sem.run_pure, Result.andThen_ok]
end
end
end Go.Proofs.YtgdeeiimkhjfiaaGreatDoor
set_option linter.unusedSimpArgs false
set_option linter.unusedVariables false
namespace Go.Proofs.YtgdeeiimkhjfiaaGreatDoor
open Go.RowKit
section
variable {W0 w : World} {x b tq n c : Nat} {s : Cs} {ix : Bool} {pg : Int} {l : Zj}
theorem tStr : Tryz.prog.underlying 9 = some .string := Tryz.underlying9
theorem k36 {P : Prop} (h : P := by
 go_roundw
 case rel =>
  refine ⟨k + 1, p ++ [c], by omega, by go_num, rfl, ?_, ?_, HM⟩
  ·simp only [List.length_append, List.length_cons, List.length_nil]; omega
  ·show _ = _
   rw [← HP.out, HH.out, List.append_assoc]; rfl
 case measure => simp [intOf]; omega) : P := h
theorem jE (s old by' : Tx) (hs : s.length ≤ 400) (ho : old ≠ []) (hol : old.length ≤ 8) (hb : by'.length ≤ 12) (w : World) : CB 42 #[.string ⟨s.toArray⟩, .string ⟨old.toArray⟩, .string ⟨by'.toArray⟩] w (.string ⟨(Zv s old by').toArray⟩) := by
 have HM := Zb (Own.start w)
 have HO := Zb ho
 have ol0 : 0 < old.length := List.length_pos_iff.2 ho
 clear ho
 go_enter Tryz.func42, Tryz.ntmps42
 go_wp2_with fail
 go_loopw [7, 8] (fun o i wr => ∃ (k : Nat) (p : Tx), k ≤ s.length ∧ i = .int .i64 k ∧ o = .string ⟨p.toArray⟩ ∧ p.length ≤ 12 * k ∧ Hid (p ++ Zv (s.drop k) old by' = Zv s old by') ∧ Hid (Own w wr [])) (fun _ i _ => s.length - (intOf i).toNat)
 case atStart => exact ⟨0, [], by omega, rfl, rfl, by simp, rfl, HM⟩
 case round =>
  clear HM
  obtain ⟨k, p, hk, rfl, rfl, lp, HP, HM⟩ := hrel
  by_cases hlt : k < s.length
  ·have hlt' : (k : Int) < (s.length : Int) := by omega
   obtain ⟨c, hc⟩ : ∃ c, s.getD k 0 = c := ⟨_, rfl⟩
   have HD : Hid (s.drop k = c :: s.drop (k + 1)) := by show _ = _; rw [← hc]; exact jC s k hlt
   have HT : Hid ((s.drop k).take (k + 1 - k) = [c]) := by show _ = _; rw [← hc]; exact yO s k hlt
   obtain ⟨r, hr⟩ : ∃ r, (s.drop k).take (k + old.length - k) = r := ⟨_, rfl⟩
   have HR := Zb hr
   have hpre : r = old ↔ old.isPrefixOf (s.drop k) = true := by rw [← hr, show k + old.length - k = old.length by omega]; exact jB old _
   by_cases hroom : k + old.length ≤ s.length
   ·have hroom' : (k : Int) + (old.length : Int) ≤ (s.length : Int) := by omega
    by_cases he : r = old
    ·have hq : (r == old) = true := by rw [beq_iff_eq]; exact he
     have HH : Hid (Zv (s.drop k) old by' = by' ++ Zv (s.drop (k + old.length)) old by') := by
      show _ = _
      rw [Zfe _ old by' HO.out (hpre.1 he) (by rw [HD.out]; simp), List.drop_drop]
     clear hpre hr he
     go_wp2_with (first | (refine Ym (s := s) (i := k) (j := k + old.length) (r := r) tStr rfl rfl rfl rfl rfl (by omega) (by omega) (by omega) HR.out rfl ?_) | ((with_reducible apply ZQ); exact rfl; exact rfl; exact rfl; (first | assumption | decide | ((try simp only [List.length_append, List.length_cons, List.length_nil]); omega)); exact rfl))
     go_roundw
     case rel =>
      refine ⟨k + old.length, p ++ by', hroom, ?_, rfl, ?_, ?_, HM⟩
      ·have e : ((k + old.length : Nat) : Int) = (k : Int) + (old.length : Int) := by omega
       rw [e]
      ·simp only [List.length_append]; omega
      ·show _ = _
       rw [← HP.out, HH.out, List.append_assoc]
     case measure => simp [intOf]; omega
    ·have hq : (r == old) = false := by rw [beq_eq_false_iff_ne]; exact he
     have HH : Hid (Zv (s.drop k) old by' = c :: Zv (s.drop (k + 1)) old by') := by
      show _ = _
      rw [HD.out]
      exact zc c _ old by' (by rw [← HD.out]; cases hp : old.isPrefixOf (s.drop k) with | false => rfl | true => exact absurd (hpre.2 hp) he)
     clear hpre hr he
     go_wp2_with (first | (refine Ym (s := s) (i := k) (j := k + old.length) (r := r) tStr rfl rfl rfl rfl rfl (by omega) (by omega) (by omega) HR.out rfl ?_) | (refine Ym (s := s) (i := k) (j := k + 1) (r := [c]) tStr rfl rfl rfl rfl rfl (by omega) (by omega) (by omega) HT.out rfl ?_) | ((with_reducible apply ZQ); exact rfl; exact rfl; exact rfl; (first | assumption | decide | ((try simp only [List.length_append, List.length_cons, List.length_nil]); omega)); exact rfl))
     exact k36
   ·have hroom' : (s.length : Int) < (k : Int) + (old.length : Int) := by omega
    have HH : Hid (Zv (s.drop k) old by' = c :: Zv (s.drop (k + 1)) old by') := by
     show _ = _
     rw [HD.out]
     exact zc c _ old by' (by rw [← HD.out]; exact zd old _ (by simp only [List.length_drop]; omega))
    clear hpre hr
    go_wp2_with (first | (refine Ym (s := s) (i := k) (j := k + 1) (r := [c]) tStr rfl rfl rfl rfl rfl (by omega) (by omega) (by omega) HT.out rfl ?_) | ((with_reducible apply ZQ); exact rfl; exact rfl; exact rfl; (first | assumption | decide | ((try simp only [List.length_append, List.length_cons, List.length_nil]); omega)); exact rfl))
    exact k36
  ·obtain rfl : k = s.length := by omega
   have HE : Hid (p = Zv s old by') := by
    show _ = _
    rw [← HP.out, List.drop_length, Zfd, List.append_nil]
   go_wp2_with fail
   go_ret
   exact ⟨by rw [← HE.out]; rfl, Own.fin HM⟩
theorem ZgF (s part : Tx) (hs : s.length ≤ 400) (ho : part ≠ []) (hol : part.length ≤ 8) (w : World) : CB 21 #[.string ⟨s.toArray⟩, .string ⟨part.toArray⟩] w (.bool (Jh s part)) := by
 have HC : Hid (∀ w, Calls Tryz.prog 42 #[.string ⟨s.toArray⟩, .string ⟨part.toArray⟩, .string ⟨#[]⟩] w fun e w' => e = .returned (.string ⟨(Zv s part []).toArray⟩) ∧ Below w.heap.size w w') := jE s part [] hs ho hol (by decide)
 obtain ⟨r, hr⟩ : ∃ r, Zv s part [] = r := ⟨_, rfl⟩
 rw [hr] at HC
 have HE : Hid (Jh s part = !(r == s)) := by show _ = _; rw [Jh, hr]
 rw [HE.out]
 have HM := Zb (Own.start w)
 clear hr ho HE
 go_enter Tryz.func21, Tryz.ntmps21
 go_wp2_with (first | (go_at_call 42; (with_reducible refine (HC.out _).mono ?_); rintro e w' ⟨rfl, hb⟩; replace HM := Zb (HM.out.call hb); clear hb))
 go_ret
 exact ⟨rfl, Own.fin HM⟩
end
end Go.Proofs.YtgdeeiimkhjfiaaGreatDoor
set_option linter.unusedSimpArgs false
set_option linter.unusedVariables false
namespace Go.Proofs.YtgdeeiimkhjfiaaGreatDoor
open Go.RowKit
section
variable {W0 w : World} {x b tq n c : Nat} {s : Cs} {ix : Bool} {pg : Int} {l : Zj}
def jF (D : List Tx) : List Value := D.map fun x => .string ⟨x.toArray⟩
@[simp] theorem strs_length (D : List Tx) : (jF D).length = D.length := by simp [jF]
theorem yP (D : List Tx) (k : Nat) (hk : k < D.length) : (jF D)[k]? = some (.string ⟨(sg D k).toArray⟩) := by
 simp [jF, sg, List.getD_eq_getElem?_getD, hk]
theorem str_info : (Tryz.prog.info? 9).map (fun i => (i.zero, i.size, i.bytes)) = some (some (.string ⟨#[]⟩), 1, 16) := by kernel_rfl
theorem str_parts : ∃ i : TypeInfo, Tryz.prog.info? 9 = some i ∧ i.zero = some (.string ⟨#[]⟩) ∧ i.size = 1 ∧ i.bytes = 16 := by
 have h := str_info
 cases hq : Tryz.prog.info? 9 with
 | none => rw [hq] at h; simp at h
 | some i => rw [hq] at h; simp at h; exact ⟨i, rfl, h.1, h.2.1, h.2.2⟩
theorem ZgG (w : World) : (Instr.buildSlice 80 0 #[]).run Tryz.prog w = .ok (.slice (some ⟨w.heap.size, 0, none⟩) 0 0) (w.alloc (.cells #[] 9)) := by kernel_rfl
theorem Zk2 (b : ByteArray) (w : World) : (Instr.buildSlice 80 1 #[(0, .string b)]).run Tryz.prog w = .ok (.slice (some ⟨w.heap.size, 0, none⟩) 1 1) (w.alloc (.cells #[.string b] 9)) := by kernel_rfl
theorem Zde (mark : UInt8) (p s : Tx) : Yg mark p (mark :: s) = p :: Yg mark [] s := by rw [Yg, if_pos rfl]
theorem ZaF (mark c : UInt8) (p s : Tx) (h : c ≠ mark) : Yg mark p (c :: s) = Yg mark (p ++ [c]) s := by rw [Yg, if_neg h]
def Z0 (w : World) (v : Value) (L : List Tx) : Prop := ∃ g cap, v = .slice (some ⟨g, 0, none⟩) L.length cap ∧ ∀ k < L.length, w.cell? ⟨g, k, none⟩ = some (.string ⟨(sg L k).toArray⟩)
theorem Z0.of {v : Value} {R : List (Nat × TypeId × List Value)} {L : List Tx} (hL : L ≠ []) (HR : Y0 9 R v (jF L)) (HM : Own W0 w R) : Z0 w v L := by
 rcases HR with ⟨-, -, hx⟩ | ⟨g, cap, cur, rfl, rfl, h1, h2, h3, h4⟩
 ·exact absurd (by simpa [jF] using hx) hL
 ·refine ⟨g, cap, by rw [strs_length], fun k hk => ?_⟩
  have hw := (HM.whole (g, 9, cur) (by simp)).2
  have e := yP L k hk
  rw [← h4, List.getElem?_take] at e
  rw [hw.at_ k]
  split at e
  ·exact e
  ·cases e
theorem Z0.under {w w' : World} {v : Value} {L : List Tx} (h : Z0 w v L) (hb : Below w.heap.size w w') : Z0 w' v L := by
 obtain ⟨g, cap, hv, hc⟩ := h
 exact ⟨g, cap, hv, fun k hk => (hb.cell (p := ⟨g, k, none⟩) (block_lt_of_cell (hc k hk))).trans (hc k hk)⟩
theorem Ya (s : Tx) (m : UInt8) (M : Int) (hM : (m.toNat : Int) = M) (hs : s.length ≤ 2000) (w : World) : Calls Tryz.prog 80 #[.string ⟨s.toArray⟩, .int .u8 M] w fun e w' => ∃ v, e = .returned v ∧ Z0 w' v (Zl s m) ∧ Below w.heap.size w w' := by
 have hM : Hid ((m.toNat : Int) = M) := hM
 obtain ⟨i0, hi, hz0, hz1, hz2⟩ := str_parts
 have HI := Zb hi
 have HZ0 := Zb hz0
 have HZ1 := Zb hz1
 have HZ2 := Zb hz2
 clear hi hz0 hz1 hz2
 have HM := Zb (Own.start w)
 have tg1 : Hid True := trivial
 go_enter Tryz.func80, Tryz.ntmps80
 go_wp2_with (first | ((with_reducible apply Yc (cs := []) (e := 9) (n := 0) HM); exact rfl; exact ZgG; (focus (go_simp; done)); exact rfl; clear tg1; intro w' g1 HM'; clear HM; have HM := HM'; clear HM'))
 have HR : Hid (Y0 9 [(g1, 9, [])] (.slice (some ⟨g1, 0, none⟩) 0 0) (jF [])) := Y0.made
 go_loopw [5, 6, 7] (fun o pt i wr => ∃ (k : Nat) (p : Tx) (D : List Tx) (R : List (Nat × TypeId × List Value)) (v : Value), k ≤ s.length ∧ p.length ≤ k ∧ i = .int .i64 k ∧ pt = .string ⟨p.toArray⟩ ∧ o = v ∧ Hid (D.length ≤ k) ∧ Hid (D ++ Yg m p (s.drop k) = Zl s m) ∧ Hid (Y0 9 R v (jF D)) ∧ Hid (Own w wr R)) (fun _ _ i _ => s.length - (intOf i).toNat)
 case atStart => exact ⟨0, [], [], _, _, by omega, by simp, rfl, rfl, rfl, by show _ ≤ _; simp, rfl, HR, HM⟩
 case round =>
  clear HM HR
  obtain ⟨k, p, D, R, v, hk, lp, rfl, rfl, rfl, HDL, HP, HR, HM⟩ := hrel
  have tg1 : Hid True := trivial
  by_cases hlt : k < s.length
  ·have hlt' : (k : Int) < (s.length : Int) := by omega
   exact k3
  ·obtain rfl : k = s.length := by omega
   have HH : Hid (D ++ [p] = Zl s m) := by
    show _ = _
    rw [← HP.out, List.drop_length]; rfl
   go_wp2_with (first | (refine a50 ?_; clear tg1; intro w' g1 HM'; clear HM; have HM := HM'; clear HM') | ((refine jA Tryz.underlying80 HI.out HZ0.out HZ1.out HZ2.out rfl (by decide) HM HR (List.sublist_cons_self _ _) rfl rfl rfl (Rd.ofWhole (HM.out.at_ .z) rfl) (by intro u hu; obtain rfl := List.mem_singleton.1 hu; rfl) (by have h := HDL.out; rw [strs_length]; simp only [List.length_cons, List.length_nil]; omega) rfl ?_); intro v' w' R' HR' HM'; clear HM HR; have HM := HM'; have HR := HR'; clear HM' HR'))
   go_ret
   refine ⟨_, rfl, ?_, Own.fin HM⟩
   rw [← HH.out]
   refine Z0.of (by simp) ?_ HM.out
   have h := HR.out
   simpa [jF] using h
end
end Go.Proofs.YtgdeeiimkhjfiaaGreatDoor
set_option linter.unusedSimpArgs false
set_option linter.unusedVariables false
namespace Go.Proofs.YtgdeeiimkhjfiaaGreatDoor
open Go.RowKit
section
variable {W0 w : World} {x b tq n c : Nat} {s : Cs} {ix : Bool} {pg : Int} {l : Zj}
theorem k21 {P : Prop} (h : P := by
 go_wp2_with (first | (go_at_call 80; refine (HC.out _).mono ?_; rintro e w' ⟨v, rfl, ht, hb⟩; have HT := Zb ht; have HB := Zb hb; clear ht hb))
 go_ret
 exact ⟨_, rfl, HT.out, HB.out⟩) : P := h
theorem Zir (w : World) : Calls Tryz.prog 39 #[] w fun e w' => ∃ v, e = .returned v ∧ Z0 w' v (Zl x_ones 124) ∧ Below w.heap.size w w' := by
 have HC : Hid (∀ w, Calls Tryz.prog 80 #[.string ⟨x_ones.toArray⟩, .int .u8 124] w fun e w' => ∃ v, e = .returned v ∧ Z0 w' v (Zl x_ones 124) ∧ Below w.heap.size w w') := Ya x_ones 124 124 rfl (by decide)
 obtain ⟨L, hL⟩ : ∃ L, Zl x_ones 124 = L := ⟨_, rfl⟩
 rw [hL] at HC ⊢
 clear hL
 go_enter Tryz.func39, Tryz.ntmps39
 exact k21
theorem Zfg (w : World) : Calls Tryz.prog 79 #[] w fun e w' => ∃ v, e = .returned v ∧ Z0 w' v (Zl x_first 124) ∧ Below w.heap.size w w' := by
 have HC : Hid (∀ w, Calls Tryz.prog 80 #[.string ⟨x_first.toArray⟩, .int .u8 124] w fun e w' => ∃ v, e = .returned v ∧ Z0 w' v (Zl x_first 124) ∧ Below w.heap.size w w') := Ya x_first 124 124 rfl (by decide)
 obtain ⟨L, hL⟩ : ∃ L, Zl x_first 124 = L := ⟨_, rfl⟩
 rw [hL] at HC ⊢
 clear hL
 go_enter Tryz.func79, Tryz.ntmps79
 exact k21
theorem Zis (w : World) : Calls Tryz.prog 81 #[] w fun e w' => ∃ v, e = .returned v ∧ Z0 w' v (Zl x_last 124) ∧ Below w.heap.size w w' := by
 have HC : Hid (∀ w, Calls Tryz.prog 80 #[.string ⟨x_last.toArray⟩, .int .u8 124] w fun e w' => ∃ v, e = .returned v ∧ Z0 w' v (Zl x_last 124) ∧ Below w.heap.size w w') := Ya x_last 124 124 rfl (by decide)
 obtain ⟨L, hL⟩ : ∃ L, Zl x_last 124 = L := ⟨_, rfl⟩
 rw [hL] at HC ⊢
 clear hL
 go_enter Tryz.func81, Tryz.ntmps81
 exact k21
theorem Zk3 (w : World) : Calls Tryz.prog 82 #[] w fun e w' => ∃ v, e = .returned v ∧ Z0 w' v (Zl x_extended 124) ∧ Below w.heap.size w w' := by
 have HC : Hid (∀ w, Calls Tryz.prog 80 #[.string ⟨x_extended.toArray⟩, .int .u8 124] w fun e w' => ∃ v, e = .returned v ∧ Z0 w' v (Zl x_extended 124) ∧ Below w.heap.size w w') := Ya x_extended 124 124 rfl (by decide)
 obtain ⟨L, hL⟩ : ∃ L, Zl x_extended 124 = L := ⟨_, rfl⟩
 rw [hL] at HC ⊢
 clear hL
 go_enter Tryz.func82, Tryz.ntmps82
 exact k21
end
end Go.Proofs.YtgdeeiimkhjfiaaGreatDoor
set_option linter.unusedSimpArgs false
set_option linter.unusedVariables false
namespace Go.Proofs.YtgdeeiimkhjfiaaGreatDoor
open Go.RowKit
section
variable {W0 w : World} {x b tq n c : Nat} {s : Cs} {ix : Bool} {pg : Int} {l : Zj}
theorem Zfh {w : World} {v : Value} {L : List Tx} {n : Nat} (h : Z0 w v L) (hn : L.length = n) : ∃ g cap, v = .slice (some ⟨g, 0, none⟩) n cap ∧ ∀ k < n, w.cell? ⟨g, k, none⟩ = some (.string ⟨(sg L k).toArray⟩) := by
 subst hn
 exact h
def x_eight : Tx := [65, 68, 68, 32, 65, 44, 124, 65, 68, 67, 32, 65, 44, 124, 83, 85, 66, 32, 124, 83, 66, 67, 32, 65, 44, 124, 65, 78, 68, 32, 124, 88, 79, 82, 32, 124, 79, 82, 32, 124, 67, 80, 32]
def jG (k : Nat) : Tx := sg (Zl x_first 124) k
def Zdf (k : Nat) : Tx := sg (Zl x_last 124) k
def Zit (k : Nat) : Tx := sg (Zl x_extended 124) k
def Yi (k : Nat) : Tx := sg rOnes k
def Vx (k : Nat) : Tx := sg (Zl x_eight 124) k
theorem len_ones : ∀ k < 8, (Yi k).length ≤ 16 := by decide +kernel
theorem len_eight : ∀ k < 8, (Vx k).length ≤ 16 := by decide +kernel
theorem k42 {P : Prop} (h : P := by
 rintro e w' ⟨v, rfl, ht, hb⟩
 obtain ⟨g, cap, rfl, hc⟩ := Zfh (n := 64) ht (by decide +kernel)
 exact ⟨g, cap, rfl, hc, hb⟩) : P := h
theorem Zfi (w : World) : Calls Tryz.prog 79 #[] w fun e w' => ∃ g cap, e = .returned (.slice (some ⟨g, 0, none⟩) 64 cap) ∧ (∀ k < 64, w'.cell? ⟨g, k, none⟩ = some (.string ⟨(jG k).toArray⟩)) ∧ Below w.heap.size w w' := by
 refine (Zfg w).mono ?_
 exact k42
theorem Ziu (w : World) : Calls Tryz.prog 81 #[] w fun e w' => ∃ g cap, e = .returned (.slice (some ⟨g, 0, none⟩) 64 cap) ∧ (∀ k < 64, w'.cell? ⟨g, k, none⟩ = some (.string ⟨(Zdf k).toArray⟩)) ∧ Below w.heap.size w w' := by
 refine (Zis w).mono ?_
 exact k42
theorem Zk4 (w : World) : Calls Tryz.prog 82 #[] w fun e w' => ∃ g cap, e = .returned (.slice (some ⟨g, 0, none⟩) 64 cap) ∧ (∀ k < 64, w'.cell? ⟨g, k, none⟩ = some (.string ⟨(Zit k).toArray⟩)) ∧ Below w.heap.size w w' := by
 refine (Zk3 w).mono ?_
 exact k42
theorem Vy (w : World) : Calls Tryz.prog 39 #[] w fun e w' => ∃ g cap, e = .returned (.slice (some ⟨g, 0, none⟩) 8 cap) ∧ (∀ k < 8, w'.cell? ⟨g, k, none⟩ = some (.string ⟨(Yi k).toArray⟩)) ∧ Below w.heap.size w w' := by
 refine (Zir w).mono ?_
 exact k43
theorem Zfj (w : World) : Calls Tryz.prog 80 #[.string ⟨x_eight.toArray⟩, .int .u8 124] w fun e w' => ∃ g cap, e = .returned (.slice (some ⟨g, 0, none⟩) 8 cap) ∧ (∀ k < 8, w'.cell? ⟨g, k, none⟩ = some (.string ⟨(Vx k).toArray⟩)) ∧ Below w.heap.size w w' := by
 refine (Ya x_eight 124 124 rfl (by decide) w).mono ?_
 exact k43
theorem Zdg (n : Nat) (hn : n < 64) (w : World) : CB 37 #[.int .u8 (n : Int)] w (.string ⟨(jG n).toArray⟩) := by
 have n1 : (n : Int) < 64 := by omega
 have HM := Zb (Own.start w)
 go_enter Tryz.func37, Tryz.ntmps37
 go_wp2_with (first | (go_at_call 79; refine (Zfi _).mono ?_; rintro e w2 ⟨g, cap, rfl, hc, hb⟩; have x0 := hc n hn;  (first | (have y := (hb.cell (block_lt_of_cell ca)).trans ca; clear ca; have ca := y; clear y) | skip); (first | (have ca := x0; clear x0) | skip);  clear hc; replace HM := Zb (HM.out.call hb); clear hb))
 all_goals go_ret
 all_goals exact ⟨rfl, Own.fin HM⟩
theorem ZaG  (w : World) : CB 37 #[.int .u8 118] w (.string ⟨([72, 65, 76, 84]).toArray⟩) := by
 have HM := Zb (Own.start w)
 go_enter Tryz.func37, Tryz.ntmps37
 go_wp2_with fail
 all_goals go_ret
 all_goals exact ⟨rfl, Own.fin HM⟩
theorem Zdh (n : Nat) (hn : 192 ≤ n) (h2 : n < 256) (w : World) : CB 37 #[.int .u8 (n : Int)] w (.string ⟨(Zdf (n - 192)).toArray⟩) := by
 have n1 : (192 : Int) ≤ (n : Int) := by omega
 have n2 : (n : Int) < 256 := by omega
 have g1 : ((n : Int) == 118) = false := by rw [beq_eq_false_iff_ne]; omega
 have e1 : (n : Int) - 192 = ((n - 192 : Nat) : Int) := by omega
 have n3 : ((n - 192 : Nat) : Int) < 64 := by omega
 have HM := Zb (Own.start w)
 go_enter Tryz.func37, Tryz.ntmps37
 go_wp2_with (first | (go_at_call 81; refine (Ziu _).mono ?_; rintro e w2 ⟨g, cap, rfl, hc, hb⟩; have x0 := hc (n - 192) (by omega);  (first | (have y := (hb.cell (block_lt_of_cell ca)).trans ca; clear ca; have ca := y; clear y) | skip); (first | (have ca := x0; clear x0) | skip);  clear hc; replace HM := Zb (HM.out.call hb); clear hb))
 all_goals go_ret
 all_goals exact ⟨rfl, Own.fin HM⟩
theorem ZaH (n : Nat) (hn : 64 ≤ n) (h2 : n < 128) (h3 : n ≠ 118) (w : World) : CB 37 #[.int .u8 (n : Int)] w (.string ⟨([76, 68, 32] ++ (Yi (n / 8 % 8) ++ ([44] ++ Yi (n % 8)))).toArray⟩) := by
 obtain ⟨a, ha⟩ : ∃ a, a = n / 8 % 8 := ⟨_, rfl⟩
 obtain ⟨b, hb⟩ : ∃ b, b = n % 8 := ⟨_, rfl⟩
 obtain ⟨d, hd⟩ : ∃ d, d = n / 8 := ⟨_, rfl⟩
 have la := len_ones a (by omega)
 have lb := len_ones b (by omega)
 have a7 : a < 8 := by omega
 have b7 : b < 8 := by omega
 have a8 : (a : Int) < 8 := by omega
 have b8 : (b : Int) < 8 := by omega
 have e1 : IntKind.u8.wrap ((n : Int).tdiv 8) = (d : Int) := by rw [Int.tdiv_eq_ediv_of_nonneg (by omega), IntKind.wrap_u8]; omega
 have e2 : (n : Int) / 8 = (d : Int) := by omega
 have e3 : (d : Int).tmod 8 = (a : Int) := by rw [Int.tmod_eq_emod_of_nonneg (by omega)]; omega
 have e4 : (d : Int) % 8 = (a : Int) := by omega
 have e5 : (n : Int).tmod 8 = (b : Int) := by rw [Int.tmod_eq_emod_of_nonneg (by omega)]; omega
 have e6 : (n : Int) % 8 = (b : Int) := by omega
 have e7 : (n : Int) / 8 % 8 = (a : Int) := by omega
 have w1 : IntKind.u8.wrap (d : Int) = (d : Int) := by rw [IntKind.wrap_u8]; omega
 rw [← ha, ← hb]
 have n1 : (64 : Int) ≤ (n : Int) := by omega
 have n2 : (n : Int) < 128 := by omega
 have g1 : ((n : Int) == 118) = false := by rw [beq_eq_false_iff_ne]; omega
 clear ha hb hd hn h2 h3
 have s1 : ¬ 9223372036854775807 < 3 + (Yi a).length := by omega
 have s2 : ¬ 9223372036854775807 < 3 + (Yi a).length + 1 := by omega
 have s3 : ¬ 9223372036854775807 < 3 + (Yi a).length + 1 + (Yi b).length := by omega
 have HM := Zb (Own.start w)
 go_enter Tryz.func37, Tryz.ntmps37
 go_wp2_with fail
 have HM' := Zb HM.out.drew
 clear HM; have HM := HM'; clear HM'
 go_region_with (first | (go_at_call 39; refine (Vy _).mono ?_; rintro e w2 ⟨g, cap, rfl, hc, hb⟩; have x0 := hc a a7; have x1 := hc b b7;  (first | (have y := (hb.cell (block_lt_of_cell ca)).trans ca; clear ca; have ca := y; clear y) | skip); (first | (have y := (hb.cell (block_lt_of_cell cb)).trans cb; clear cb; have cb := y; clear y) | skip); (first | (have ca := x0; clear x0) | skip); (first | (have cb := x1; clear x1) | skip);  clear hc; replace HM := Zb (HM.out.call hb); clear hb) | ((with_reducible apply ZQ); exact rfl; exact rfl; exact rfl; (first | assumption | decide | ((try simp only [List.length_append, List.length_cons, List.length_nil]); omega)); exact rfl))
 all_goals go_wp2_with (first | ((with_reducible apply ZQ); exact rfl; exact rfl; exact rfl; (first | assumption | decide | ((try simp only [List.length_append, List.length_cons, List.length_nil]); omega)); exact rfl))
 all_goals go_ret
 all_goals refine ⟨congrArg (fun b : ByteArray => Ending.returned (.string b)) (?_ : (_ : ByteArray) = _), Own.fin HM⟩
 all_goals simp only [KG, List.append_assoc, List.cons_append, List.nil_append]
theorem ZaI (n : Nat) (hn : 128 ≤ n) (h2 : n < 192) (w : World) : CB 37 #[.int .u8 (n : Int)] w (.string ⟨(Vx (n / 8 % 8) ++ Yi (n % 8)).toArray⟩) := by
 obtain ⟨a, ha⟩ : ∃ a, a = n / 8 % 8 := ⟨_, rfl⟩
 obtain ⟨b, hb⟩ : ∃ b, b = n % 8 := ⟨_, rfl⟩
 obtain ⟨d, hd⟩ : ∃ d, d = n / 8 := ⟨_, rfl⟩
 have la := len_ones a (by omega)
 have lb := len_ones b (by omega)
 have a7 : a < 8 := by omega
 have b7 : b < 8 := by omega
 have a8 : (a : Int) < 8 := by omega
 have b8 : (b : Int) < 8 := by omega
 have e1 : IntKind.u8.wrap ((n : Int).tdiv 8) = (d : Int) := by rw [Int.tdiv_eq_ediv_of_nonneg (by omega), IntKind.wrap_u8]; omega
 have e2 : (n : Int) / 8 = (d : Int) := by omega
 have e3 : (d : Int).tmod 8 = (a : Int) := by rw [Int.tmod_eq_emod_of_nonneg (by omega)]; omega
 have e4 : (d : Int) % 8 = (a : Int) := by omega
 have e5 : (n : Int).tmod 8 = (b : Int) := by rw [Int.tmod_eq_emod_of_nonneg (by omega)]; omega
 have e6 : (n : Int) % 8 = (b : Int) := by omega
 have e7 : (n : Int) / 8 % 8 = (a : Int) := by omega
 have w1 : IntKind.u8.wrap (d : Int) = (d : Int) := by rw [IntKind.wrap_u8]; omega
 rw [← ha, ← hb]
 have lc := len_eight a (by omega)
 have n1 : (128 : Int) ≤ (n : Int) := by omega
 have n2 : (n : Int) < 192 := by omega
 have g1 : ((n : Int) == 118) = false := by rw [beq_eq_false_iff_ne]; omega
 clear ha hb hd hn h2
 have s1 : ¬ 9223372036854775807 < (Vx a).length + (Yi b).length := by omega
 have HM := Zb (Own.start w)
 go_enter Tryz.func37, Tryz.ntmps37
 go_wp2_with fail
 have HM' := Zb HM.out.drew
 clear HM; have HM := HM'; clear HM'
 go_region_with (first | (go_at_call 80; refine (Zfj _).mono ?_; rintro e w2 ⟨g, cap, rfl, hc, hb⟩; have x0 := hc a a7;  (first | (have y := (hb.cell (block_lt_of_cell ca)).trans ca; clear ca; have ca := y; clear y) | skip); (first | (have ca := x0; clear x0) | skip);  clear hc; replace HM := Zb (HM.out.call hb); clear hb) | (go_at_call 39; refine (Vy _).mono ?_; rintro e w2 ⟨g, cap, rfl, hc, hb⟩; have x0 := hc b b7;  (first | (have y := (hb.cell (block_lt_of_cell ca)).trans ca; clear ca; have ca := y; clear y) | skip); (first | (have y := (hb.cell (block_lt_of_cell cb)).trans cb; clear cb; have cb := y; clear y) | skip); (first | (have cb := x0; clear x0) | skip);  clear hc; replace HM := Zb (HM.out.call hb); clear hb))
 all_goals go_wp2_with (first | ((with_reducible apply ZQ); exact rfl; exact rfl; exact rfl; (first | assumption | decide | ((try simp only [List.length_append, List.length_cons, List.length_nil]); omega)); exact rfl))
 all_goals go_ret
 all_goals refine ⟨congrArg (fun b : ByteArray => Ending.returned (.string b)) (?_ : (_ : ByteArray) = _), Own.fin HM⟩
 all_goals simp only [KG, List.append_assoc, List.cons_append, List.nil_append]
theorem zf (n : Nat) (hn : n < 256) (w : World) : CB 37 #[.int .u8 (n : Int)] w (.string ⟨(Yh n).toArray⟩) := by
 by_cases h1 : n < 64
 ·have e : Yh n = jG n := by rw [Yh, if_pos h1]; rfl
  rw [e]; exact Zdg n h1 w
 ·by_cases h2 : n = 118
  ·subst h2; exact ZaG w
  ·by_cases h3 : n < 128
   ·have e : Yh n = [76, 68, 32] ++ (Yi (n / 8 % 8) ++ ([44] ++ Yi (n % 8))) := by rw [Yh, if_neg h1, if_neg h2, if_pos h3]; simp only [List.append_assoc]; rfl
    rw [e]; exact ZaH n (by omega) h3 h2 w
   ·by_cases h4 : n < 192
    ·have e : Yh n = Vx (n / 8 % 8) ++ Yi (n % 8) := by rw [Yh, if_neg h1, if_neg h2, if_neg h3, if_pos h4]; rfl
     rw [e]; exact ZaI n (by omega) h4 w
    ·have e : Yh n = Zdf (n - 192) := by rw [Yh, if_neg h1, if_neg h2, if_neg h3, if_neg h4]; rfl
     rw [e]; exact Zdh n (by omega) hn w
theorem len_plain : ∀ n < 256, (Yh n).length ≤ 16 := by decide +kernel
end
end Go.Proofs.YtgdeeiimkhjfiaaGreatDoor
