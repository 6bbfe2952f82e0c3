import Derived.Test.YtgdeeiimkhjfiaaGreatDoorV36
set_option maxRecDepth 100000
set_option maxHeartbeats 6400000
namespace Go.Proofs.YtgdeeiimkhjfiaaGreatDoor
open Go.RowKit
section
variable {W0 w : World} {x b tq n c : Nat} {s : Cs} {ix : Bool} {pg : Int} {l : Zj}
section
variable {P : Program} {W0 w w' : World} {x b tq n : Nat} {s : Cs} {ix : Bool} {pg : Int} {l : Zj} {ops : Array Oper} {rest : List Oper} {o : Oper} {a : Act} {Q : Exit → Act → World → Prop}
theorem Ex.plus {g : Nat} {t : TypeId} {cs : List Value} (h : Ex W0 w x b s tq ix pg l n) (hb : Below w.heap.size w w') (hg : w.heap.size ≤ g) (hW : ZL w' g t cs) : Ex W0 w' x b s tq ix pg ((g, t, cs) :: l) n := by
 obtain ⟨hf, hg', X, hX, hO⟩ := h
 exact ⟨hf, hg', X, hX, (hO.plus hb hg hW).perm (List.Perm.swap _ _ _)⟩
theorem Ex.plus2 {g : Nat} {t : TypeId} {cs : List Value} {e : Nat × TypeId × List Value} (h : Ex W0 w x b s tq ix pg (e :: l) n) (hb : Below w.heap.size w w') (hg : w.heap.size ≤ g) (hW : ZL w' g t cs) : Ex W0 w' x b s tq ix pg (e :: (g, t, cs) :: l) n := by
 obtain ⟨hf, hg', X, hX, hO⟩ := h.plus hb hg hW
 exact ⟨hf, hg', X, hX, hO.perm (.cons _ (List.Perm.swap _ _ _))⟩
theorem VH {ty t : TypeId} {p : Operand} {g i : Nat} {cs : List Value} {v : Value} (H : Hid (Ex W0 w x b s tq ix pg l n)) (ho : o.op = .load ty p) (hx : a.eval p = .pointer (some ⟨g, i, none⟩)) (hty : One P ty) (hs : ∀ X : Zj, Sel ((x, 58, xc s b tq ix pg) :: (l ++ X)) g t cs) (hd : cs[i]? = some v) (hw : Region.wanted o (yielded ops a.tmps) = true)
  (k : wpList P ops Q rest (a.put o.dst v) w) : wpList P ops Q (o :: rest) a w := by
 obtain ⟨HF, HG, X, HX, HM⟩ := H.out.hid
 exact Yr HM ho hx hty (hs X) hd hw k
theorem xput2 {ty t : TypeId} {p y : Operand} {g i : Nat} {cs cs' : List Value} {v : Value} (H : Hid (Ex W0 w x b s tq ix pg ((g, t, cs) :: l) n)) (ho : o.op = .store ty p y) (hx : a.eval p = .pointer (some ⟨g, i, none⟩)) (hy : a.eval y = v) (hs : cs.set i v = cs') (hty : j5 P ty 1) (h1 : v.oneCell' = true) (hw : Region.wanted o (yielded ops a.tmps) = true) (hi : i < cs.length) (hd : o.dst = none)
  (k : ∀ w', Hid (Ex W0 w' x b s tq ix pg ((g, t, cs') :: l) n) → wpList P ops Q rest a w') : wpList P ops Q (o :: rest) a w := by
 obtain ⟨HF, HG, X, HX, HM⟩ := H.out.hid
 exact Ye HM ho hx hy (.s .z) hs (.s .z) hty h1 hw hi hd fun w' HM' => k w' (Zb ⟨HF.out, HG.out, X, HX.out, HM'.out⟩)
theorem Ex.drop3 {e e2 e3 : Nat × TypeId × List Value} (h : Ex W0 w x b s tq ix pg (e :: e2 :: e3 :: l) n) : Ex W0 w x b s tq ix pg l n := h.drop2.drop2.drop2
end
theorem ZlQ (w : World) : (Instr.buildSlice 80 2 #[(0, .string ⟨#[]⟩), (1, .string ⟨#[]⟩)]).run Tryz.prog w = .ok (.slice (some ⟨w.heap.size, 0, none⟩) 2 2) (w.alloc (.cells [Value.string ⟨([] : Tx).toArray⟩, .string ⟨([] : Tx).toArray⟩].toArray 9)) := by kernel_rfl
def pp (q : List Tx) (k j : Nat) : Tx := if j < k then sg q j else []
theorem oneStrs : One Tryz.prog 9 := oneStr
abbrev zn (m : Nat) (vs : List Value) (s : Cs) (tq : Nat) (ix : Bool) (pg : Int) (k : Nat) (c : Int) (s' : Cs) (tq' : Nat) (ix' : Bool) : Prop :=
 ∀ (W0 w : World) (x b n : Nat) (l : Zj), Hid (Ex W0 w x b s tq ix pg l (n + k)) → Calls Tryz.prog m (Value.pointer (some ⟨x, 0, none⟩) :: vs).toArray w fun e w' => e = .returned (.int .i64 c) ∧ Hid (Ex W0 w' x b s' tq' ix' pg l n)
theorem ZlR (q : List Tx) (j : Nat) (y : Tx) (hj : j < 2) (hy : sg q j = y) : ([.string ⟨(pp q j 0).toArray⟩, .string ⟨(pp q j 1).toArray⟩] : List Value).set j (.string ⟨y.toArray⟩) = [.string ⟨(pp q (j + 1) 0).toArray⟩, .string ⟨(pp q (j + 1) 1).toArray⟩] := by
 subst hy
 obtain rfl | rfl : j = 0 ∨ j = 1 := by omega
 ·rfl
 ·rfl
theorem ZdE (q : List Tx) (j : Nat) (hj : ¬ j < 2) (i : Nat) (hi : i < 2) : pp q j i = pp q (j + 1) i := by
 unfold pp; rw [if_pos (by omega), if_pos (by omega)]
theorem Ue (q : List Tx) (i : Nat) : pp q q.length i = sg q i := by
 unfold pp sg
 by_cases h : i < q.length
 ·rw [if_pos h]
 ·rw [if_neg h, List.getD_eq_getElem?_getD, List.getElem?_eq_none (by omega)]; rfl
inductive Two (t A B : Tx) : Int → Tx → Nat → List Value → Prop
 | ld_ (page : Int) : Two t A B page [76, 68] 45 [.string ⟨A.toArray⟩, .string ⟨B.toArray⟩]
 | inc_ (page : Int) : Two t A B page [73, 78, 67] 46 [.string ⟨[73, 78, 67].toArray⟩, .string ⟨A.toArray⟩]
 | dec_ (page : Int) : Two t A B page [68, 69, 67] 46 [.string ⟨[68, 69, 67].toArray⟩, .string ⟨A.toArray⟩]
 | add_ (page : Int) : Two t A B page [65, 68, 68] 47 [.string ⟨[65, 68, 68].toArray⟩, .string ⟨A.toArray⟩, .string ⟨B.toArray⟩]
 | adc_ (page : Int) : Two t A B page [65, 68, 67] 47 [.string ⟨[65, 68, 67].toArray⟩, .string ⟨A.toArray⟩, .string ⟨B.toArray⟩]
 | sub_ (page : Int) : Two t A B page [83, 85, 66] 47 [.string ⟨[83, 85, 66].toArray⟩, .string ⟨A.toArray⟩, .string ⟨B.toArray⟩]
 | sbc_ (page : Int) : Two t A B page [83, 66, 67] 47 [.string ⟨[83, 66, 67].toArray⟩, .string ⟨A.toArray⟩, .string ⟨B.toArray⟩]
 | and_ (page : Int) : Two t A B page [65, 78, 68] 47 [.string ⟨[65, 78, 68].toArray⟩, .string ⟨A.toArray⟩, .string ⟨B.toArray⟩]
 | xor_ (page : Int) : Two t A B page [88, 79, 82] 47 [.string ⟨[88, 79, 82].toArray⟩, .string ⟨A.toArray⟩, .string ⟨B.toArray⟩]
 | or_ (page : Int) : Two t A B page [79, 82] 47 [.string ⟨[79, 82].toArray⟩, .string ⟨A.toArray⟩, .string ⟨B.toArray⟩]
 | cp_ (page : Int) : Two t A B page [67, 80] 47 [.string ⟨[67, 80].toArray⟩, .string ⟨A.toArray⟩, .string ⟨B.toArray⟩]
 | jp_ (page : Int) : Two t A B page [74, 80] 48 [.string ⟨[74, 80].toArray⟩, .string ⟨A.toArray⟩, .string ⟨B.toArray⟩]
 | jr_ (page : Int) : Two t A B page [74, 82] 48 [.string ⟨[74, 82].toArray⟩, .string ⟨A.toArray⟩, .string ⟨B.toArray⟩]
 | djnz_ (page : Int) : Two t A B page [68, 74, 78, 90] 48 [.string ⟨[68, 74, 78, 90].toArray⟩, .string ⟨A.toArray⟩, .string ⟨B.toArray⟩]
 | call_ (page : Int) : Two t A B page [67, 65, 76, 76] 48 [.string ⟨[67, 65, 76, 76].toArray⟩, .string ⟨A.toArray⟩, .string ⟨B.toArray⟩]
 | ret_ (page : Int) : Two t A B page [82, 69, 84] 48 [.string ⟨[82, 69, 84].toArray⟩, .string ⟨A.toArray⟩, .string ⟨B.toArray⟩]
 | rst_ (page : Int) : Two t A B page [82, 83, 84] 48 [.string ⟨[82, 83, 84].toArray⟩, .string ⟨A.toArray⟩, .string ⟨B.toArray⟩]
 | ex_ (page : Int) : Two t A B page [69, 88] 51 [.string ⟨[69, 88].toArray⟩, .string ⟨A.toArray⟩, .string ⟨B.toArray⟩]
 | in_ (page : Int) : Two t A B page [73, 78] 52 [.string ⟨[73, 78].toArray⟩, .string ⟨A.toArray⟩, .string ⟨B.toArray⟩]
 | out_ (page : Int) : Two t A B page [79, 85, 84] 52 [.string ⟨[79, 85, 84].toArray⟩, .string ⟨A.toArray⟩, .string ⟨B.toArray⟩]
 | rlc_ (page : Int) : Two t A B page [82, 76, 67] 53 [.string ⟨t.toArray⟩, .string ⟨[82, 76, 67].toArray⟩, .int .i64 page]
 | rrc_ (page : Int) : Two t A B page [82, 82, 67] 53 [.string ⟨t.toArray⟩, .string ⟨[82, 82, 67].toArray⟩, .int .i64 page]
 | rl_ (page : Int) : Two t A B page [82, 76] 53 [.string ⟨t.toArray⟩, .string ⟨[82, 76].toArray⟩, .int .i64 page]
 | rr_ (page : Int) : Two t A B page [82, 82] 53 [.string ⟨t.toArray⟩, .string ⟨[82, 82].toArray⟩, .int .i64 page]
 | sla_ (page : Int) : Two t A B page [83, 76, 65] 53 [.string ⟨t.toArray⟩, .string ⟨[83, 76, 65].toArray⟩, .int .i64 page]
 | sra_ (page : Int) : Two t A B page [83, 82, 65] 53 [.string ⟨t.toArray⟩, .string ⟨[83, 82, 65].toArray⟩, .int .i64 page]
 | sll_ (page : Int) : Two t A B page [83, 76, 76] 53 [.string ⟨t.toArray⟩, .string ⟨[83, 76, 76].toArray⟩, .int .i64 page]
 | srl_ (page : Int) : Two t A B page [83, 82, 76] 53 [.string ⟨t.toArray⟩, .string ⟨[83, 82, 76].toArray⟩, .int .i64 page]
 | bit_ (page : Int) : Two t A B page [66, 73, 84] 53 [.string ⟨t.toArray⟩, .string ⟨[66, 73, 84].toArray⟩, .int .i64 page]
 | res_ (page : Int) : Two t A B page [82, 69, 83] 53 [.string ⟨t.toArray⟩, .string ⟨[82, 69, 83].toArray⟩, .int .i64 page]
 | set_ (page : Int) : Two t A B page [83, 69, 84] 53 [.string ⟨t.toArray⟩, .string ⟨[83, 69, 84].toArray⟩, .int .i64 page]
 | im_ : Two t A B 2 [73, 77] 54 [.string ⟨[73, 77].toArray⟩, .string ⟨A.toArray⟩]
theorem vg (t hd w1 : Tx) (hl : t.length ≤ 100) (page : Int) (hL : Zl t 32 = [hd, w1]) (hl1 : w1.length ≤ 100) (q : List Tx) (hq : Zl w1 44 = q) (hq1 : 1 ≤ q.length) (hq3 : q.length ≤ 3) (A B : Tx) (hA : sg q 0 = A) (hB : sg q 1 = B) (m : Nat) (vs : List Value) (T : Two t A B page hd m vs) (k : Nat) (c : Int) (s' : Cs) (tq' : Nat) (ix' : Bool) (D : zn m vs s tq ix page k c s' tq' ix') (H : Hid (Ex W0 w x b s tq ix pg l (n + k))) :
  CX 23 #[.pointer (some ⟨x, 0, none⟩), .string ⟨t.toArray⟩, .int .i64 page] w (.int .i64 c) fun w' => Hid (Ex W0 w' x b s' tq' ix' page l n) := by
 have m32 : ((32 : UInt8).toNat : Int) = 32 := rfl
 have l32 : t.length ≤ 2000 := by omega
 have HD := Zb D
 have HA := Zb hA
 have HB := Zb hB
 have HT := Zb T
 have m44 : ((44 : UInt8).toNat : Int) = 44 := rfl
 have l44 : w1.length ≤ 2000 := by omega
 clear D hA hB T
 go_enter Tryz.func23, Tryz.ntmps23
 go_upto_region 3 with (first | ((with_reducible apply xpY (s' := s) (pg' := page) H); (refine ⟨rfl, rfl, rfl, jz, ⟨rfl, fun h => h⟩, oneInt.size, rfl, rfl, (by decide), rfl⟩); clear H; intro w' H) | (go_at_call 44; (with_reducible refine (ZJ t 32 32 m32 l32 _).mono ?_); rintro e w' ⟨g1, cap1, cur1, rfl, -, hg, hW, hc, hb⟩; rw [hL] at hc ⊢; have H' := Zb (H.out.plus hb hg hW); have HC1 := Zb hc; clear H hb hg hW hc; have H := H'; clear H') | fail)
 have d0 : cur1[0]? = some (.string ⟨hd.toArray⟩) := HC1.out 0 (show (0 : Nat) < 2 by decide)
 have d1 : cur1[1]? = some (.string ⟨w1.toArray⟩) := HC1.out 1 (show (1 : Nat) < 2 by decide)
 go_upto_region 6 with (first | (refine a40 ?_; clear H; intro w' g2 H) | refine a61 ?_ | (go_at_call 44; (with_reducible refine (ZJ w1 44 44 m44 l44 _).mono ?_); rintro e w' ⟨g3, cap3, cur3, rfl, -, hg, hW, hc, hb⟩; rw [hq] at hc ⊢; have H' := Zb (H.out.plus2 hb hg hW); have HC3 := Zb hc; clear H hb hg hW hc; have H := H'; clear H') | fail)
 go_loopw [28] (fun i wr => ∃ j : Nat, j ≤ q.length ∧ i = .int .i64 (j : Int) ∧ Hid (Ex W0 wr x b s tq ix page ((g2, 9, [.string ⟨(pp q j 0).toArray⟩, .string ⟨(pp q j 1).toArray⟩]) :: (g3, 9, cur3) :: (g1, 9, cur1) :: l) (n + k))) (fun i _ => q.length - (intOf i).toNat)
 case atStart => exact ⟨0, by omega, rfl, H⟩
 case round =>
  clear H
  obtain ⟨j, hj, rfl, H⟩ := hrel
  by_cases hlt : j < q.length
  ·have hlt' : (j : Int) < (q.length : Int) := by omega
   exact k10
  ·obtain rfl : j = q.length := by omega
   rw [Ue q 0, Ue q 1, HA.out, HB.out] at H
   go_upto_region 11 with (first | fail)
   obtain ⟨HF, HG, X, HX, HM⟩ := H.out.hid
   simp only [List.cons_append] at HM
   (refine Zo HM (by kernel_rfl) (by kernel_rfl) ?_; (try simp only [Act.put, Ze, Zc, Zd]); repeat ((fail_if_success (with_reducible refine wpQuiet_nil ?_)); first | go_big_quiet_skip | (go_big_quiet_want; first | (refine a17 ?_; go_big_quiet_op; go_big_quiet_on) | (refine a18 ?_; go_big_quiet_op; go_big_quiet_on) | (refine a41 ?_; go_big_quiet_op; go_big_quiet_on) | (go_big_quiet_op; go_big_quiet_on) | (go_big_quiet_op; refine ⟨_, fun _ _ => rfl, ?_⟩; go_big_quiet_on))))
   refine wpQuiet_nil ?_
   intro w' HM'
   clear H
   have H := Zb (Ex.made (l := (g2, 9, [.string ⟨A.toArray⟩, .string ⟨B.toArray⟩]) :: (g3, 9, cur3) :: (g1, 9, cur1) :: l) HM'.out HG.out HX.out HF.out)
   clear HM HM' HF HG HX
   have T := HT.out
   clear HT
   cases T
   all_goals
    go_wp2_with (first | refine a63 ?_ | (go_at_call 45; (with_reducible refine (HD.out _ _ _ _ _ _ H).mono ?_); clear H; rintro e w' ⟨rfl, H⟩) | (go_at_call 46; (with_reducible refine (HD.out _ _ _ _ _ _ H).mono ?_); clear H; rintro e w' ⟨rfl, H⟩) | (go_at_call 47; (with_reducible refine (HD.out _ _ _ _ _ _ H).mono ?_); clear H; rintro e w' ⟨rfl, H⟩) | (go_at_call 48; (with_reducible refine (HD.out _ _ _ _ _ _ H).mono ?_); clear H; rintro e w' ⟨rfl, H⟩) | (go_at_call 51; (with_reducible refine (HD.out _ _ _ _ _ _ H).mono ?_); clear H; rintro e w' ⟨rfl, H⟩) | (go_at_call 52; (with_reducible refine (HD.out _ _ _ _ _ _ H).mono ?_); clear H; rintro e w' ⟨rfl, H⟩) | (go_at_call 53; (with_reducible refine (HD.out _ _ _ _ _ _ H).mono ?_); clear H; rintro e w' ⟨rfl, H⟩) | (go_at_call 54; (with_reducible refine (HD.out _ _ _ _ _ _ H).mono ?_); clear H; rintro e w' ⟨rfl, H⟩) | fail)
    go_ret
    exact ⟨rfl, Zb H.out.drop3⟩
inductive Single (t A B : Tx) : Int → Tx → Nat → List Value → Prop
 | ret_ (page : Int) : Single t A B page [82, 69, 84] 48 [.string ⟨[82, 69, 84].toArray⟩, .string ⟨A.toArray⟩, .string ⟨B.toArray⟩]
 | retn_ (page : Int) : Single t A B page [82, 69, 84, 78] 48 [.string ⟨[82, 69, 84, 78].toArray⟩, .string ⟨A.toArray⟩, .string ⟨B.toArray⟩]
 | reti_ (page : Int) : Single t A B page [82, 69, 84, 73] 48 [.string ⟨[82, 69, 84, 73].toArray⟩, .string ⟨A.toArray⟩, .string ⟨B.toArray⟩]
 | exx_ (page : Int) : Single t A B page [69, 88, 88] 51 [.string ⟨[69, 88, 88].toArray⟩, .string ⟨A.toArray⟩, .string ⟨B.toArray⟩]
 | neg_ : Single t A B 2 [78, 69, 71] 54 [.string ⟨[78, 69, 71].toArray⟩, .string ⟨A.toArray⟩]
 | rrd_ : Single t A B 2 [82, 82, 68] 54 [.string ⟨[82, 82, 68].toArray⟩, .string ⟨A.toArray⟩]
 | rld_ : Single t A B 2 [82, 76, 68] 54 [.string ⟨[82, 76, 68].toArray⟩, .string ⟨A.toArray⟩]
 | nop_ : Single t A B 2 [78, 79, 80] 54 [.string ⟨[78, 79, 80].toArray⟩, .string ⟨A.toArray⟩]
 | ldi_ : Single t A B 2 [76, 68, 73] 54 [.string ⟨[76, 68, 73].toArray⟩, .string ⟨A.toArray⟩]
 | ldd_ : Single t A B 2 [76, 68, 68] 54 [.string ⟨[76, 68, 68].toArray⟩, .string ⟨A.toArray⟩]
 | ldir_ : Single t A B 2 [76, 68, 73, 82] 54 [.string ⟨[76, 68, 73, 82].toArray⟩, .string ⟨A.toArray⟩]
 | lddr_ : Single t A B 2 [76, 68, 68, 82] 54 [.string ⟨[76, 68, 68, 82].toArray⟩, .string ⟨A.toArray⟩]
 | cpi_ : Single t A B 2 [67, 80, 73] 54 [.string ⟨[67, 80, 73].toArray⟩, .string ⟨A.toArray⟩]
 | cpd_ : Single t A B 2 [67, 80, 68] 54 [.string ⟨[67, 80, 68].toArray⟩, .string ⟨A.toArray⟩]
 | cpir_ : Single t A B 2 [67, 80, 73, 82] 54 [.string ⟨[67, 80, 73, 82].toArray⟩, .string ⟨A.toArray⟩]
 | cpdr_ : Single t A B 2 [67, 80, 68, 82] 54 [.string ⟨[67, 80, 68, 82].toArray⟩, .string ⟨A.toArray⟩]
 | ini_ : Single t A B 2 [73, 78, 73] 54 [.string ⟨[73, 78, 73].toArray⟩, .string ⟨A.toArray⟩]
 | ind_ : Single t A B 2 [73, 78, 68] 54 [.string ⟨[73, 78, 68].toArray⟩, .string ⟨A.toArray⟩]
 | inir_ : Single t A B 2 [73, 78, 73, 82] 54 [.string ⟨[73, 78, 73, 82].toArray⟩, .string ⟨A.toArray⟩]
 | indr_ : Single t A B 2 [73, 78, 68, 82] 54 [.string ⟨[73, 78, 68, 82].toArray⟩, .string ⟨A.toArray⟩]
 | outi_ : Single t A B 2 [79, 85, 84, 73] 54 [.string ⟨[79, 85, 84, 73].toArray⟩, .string ⟨A.toArray⟩]
 | outd_ : Single t A B 2 [79, 85, 84, 68] 54 [.string ⟨[79, 85, 84, 68].toArray⟩, .string ⟨A.toArray⟩]
 | otir_ : Single t A B 2 [79, 84, 73, 82] 54 [.string ⟨[79, 84, 73, 82].toArray⟩, .string ⟨A.toArray⟩]
 | otdr_ : Single t A B 2 [79, 84, 68, 82] 54 [.string ⟨[79, 84, 68, 82].toArray⟩, .string ⟨A.toArray⟩]
inductive Alone (t A B : Tx) : Int → Tx → Nat → List Value → Prop
 | rlca_ (page : Int) : Alone t A B page [82, 76, 67, 65] 55 [.string ⟨[82, 76, 67, 65].toArray⟩]
 | rrca_ (page : Int) : Alone t A B page [82, 82, 67, 65] 55 [.string ⟨[82, 82, 67, 65].toArray⟩]
 | rla_ (page : Int) : Alone t A B page [82, 76, 65] 55 [.string ⟨[82, 76, 65].toArray⟩]
 | rra_ (page : Int) : Alone t A B page [82, 82, 65] 55 [.string ⟨[82, 82, 65].toArray⟩]
 | daa_ (page : Int) : Alone t A B page [68, 65, 65] 55 [.string ⟨[68, 65, 65].toArray⟩]
 | cpl_ (page : Int) : Alone t A B page [67, 80, 76] 55 [.string ⟨[67, 80, 76].toArray⟩]
 | scf_ (page : Int) : Alone t A B page [83, 67, 70] 55 [.string ⟨[83, 67, 70].toArray⟩]
 | ccf_ (page : Int) : Alone t A B page [67, 67, 70] 55 [.string ⟨[67, 67, 70].toArray⟩]
 | nop_ (page : Int) : Alone t A B page [78, 79, 80] 55 [.string ⟨[78, 79, 80].toArray⟩]
 | halt_ (page : Int) : Alone t A B page [72, 65, 76, 84] 55 [.string ⟨[72, 65, 76, 84].toArray⟩]
 | di_ (page : Int) : Alone t A B page [68, 73] 55 [.string ⟨[68, 73].toArray⟩]
 | ei_ (page : Int) : Alone t A B page [69, 73] 55 [.string ⟨[69, 73].toArray⟩]
theorem ZfI (t hd : Tx) (hl : t.length ≤ 100) (page : Int) (hL : Zl t 32 = [hd]) (m : Nat) (vs : List Value) (T : Single t [] [] page hd m vs) (k : Nat) (c : Int) (s' : Cs) (tq' : Nat) (ix' : Bool) (D : zn m vs s tq ix page k c s' tq' ix') (H : Hid (Ex W0 w x b s tq ix pg l (n + k))) :
  CX 23 #[.pointer (some ⟨x, 0, none⟩), .string ⟨t.toArray⟩, .int .i64 page] w (.int .i64 c) fun w' => Hid (Ex W0 w' x b s' tq' ix' page l n) := by
 have m32 : ((32 : UInt8).toNat : Int) = 32 := rfl
 have l32 : t.length ≤ 2000 := by omega
 have HD := Zb D
 have HT := Zb T
 clear D T
 go_enter Tryz.func23, Tryz.ntmps23
 go_upto_region 3 with (first | ((with_reducible apply xpY (s' := s) (pg' := page) H); (refine ⟨rfl, rfl, rfl, jz, ⟨rfl, fun h => h⟩, oneInt.size, rfl, rfl, (by decide), rfl⟩); clear H; intro w' H) | (go_at_call 44; (with_reducible refine (ZJ t 32 32 m32 l32 _).mono ?_); rintro e w' ⟨g1, cap1, cur1, rfl, -, hg, hW, hc, hb⟩; rw [hL] at hc ⊢; have H' := Zb (H.out.plus hb hg hW); have HC1 := Zb hc; clear H hb hg hW hc; have H := H'; clear H') | fail)
 have d0 : cur1[0]? = some (.string ⟨hd.toArray⟩) := HC1.out 0 (show (0 : Nat) < 1 by decide)
 go_upto_region 11 with (first | (refine a40 ?_; clear H; intro w' g2 H) | fail)
 obtain ⟨HF, HG, X, HX, HM⟩ := H.out.hid
 simp only [List.cons_append] at HM
 (refine Zo HM (by kernel_rfl) (by kernel_rfl) ?_; (try simp only [Act.put, Ze, Zc, Zd]); repeat ((fail_if_success (with_reducible refine wpQuiet_nil ?_)); first | go_big_quiet_skip | (go_big_quiet_want; first | (refine a17 ?_; go_big_quiet_op; go_big_quiet_on) | (refine a18 ?_; go_big_quiet_op; go_big_quiet_on) | (refine a41 ?_; go_big_quiet_op; go_big_quiet_on) | (go_big_quiet_op; go_big_quiet_on) | (go_big_quiet_op; refine ⟨_, fun _ _ => rfl, ?_⟩; go_big_quiet_on))))
 refine wpQuiet_nil ?_
 intro w' HM'
 clear H
 have H := Zb (Ex.made (l := (g2, 9, [.string ⟨([] : Tx).toArray⟩, .string ⟨([] : Tx).toArray⟩]) :: (g1, 9, cur1) :: l) HM'.out HG.out HX.out HF.out)
 clear HM HM' HF HG HX
 have T := HT.out
 clear HT
 cases T
 all_goals
  go_wp2_with (first | ((with_reducible apply VH H); exact rfl; exact rfl; exact oneStrs; (intro X; exact .s (.s .z)); exact d0; exact rfl) | (go_at_call 48; (with_reducible refine (HD.out _ _ _ _ _ _ H).mono ?_); clear H; rintro e w' ⟨rfl, H⟩) | (go_at_call 51; (with_reducible refine (HD.out _ _ _ _ _ _ H).mono ?_); clear H; rintro e w' ⟨rfl, H⟩) | (go_at_call 54; (with_reducible refine (HD.out _ _ _ _ _ _ H).mono ?_); clear H; rintro e w' ⟨rfl, H⟩) | fail)
  go_ret
  exact ⟨rfl, Zb H.out.drop2.drop2⟩
theorem ZaW (t hd : Tx) (hl : t.length ≤ 100) (page : Int) (hp2 : ¬ page = 2) (hL : Zl t 32 = [hd]) (m : Nat) (vs : List Value) (T : Alone t [] [] page hd m vs) (k : Nat) (c : Int) (s' : Cs) (tq' : Nat) (ix' : Bool) (D : zn m vs s tq ix page k c s' tq' ix') (H : Hid (Ex W0 w x b s tq ix pg l (n + k))) :
  CX 23 #[.pointer (some ⟨x, 0, none⟩), .string ⟨t.toArray⟩, .int .i64 page] w (.int .i64 c) fun w' => Hid (Ex W0 w' x b s' tq' ix' page l n) := by
 have m32 : ((32 : UInt8).toNat : Int) = 32 := rfl
 have l32 : t.length ≤ 2000 := by omega
 have HD := Zb D
 have HT := Zb T
 clear D T
 go_enter Tryz.func23, Tryz.ntmps23
 go_upto_region 3 with (first | ((with_reducible apply xpY (s' := s) (pg' := page) H); (refine ⟨rfl, rfl, rfl, jz, ⟨rfl, fun h => h⟩, oneInt.size, rfl, rfl, (by decide), rfl⟩); clear H; intro w' H) | (go_at_call 44; (with_reducible refine (ZJ t 32 32 m32 l32 _).mono ?_); rintro e w' ⟨g1, cap1, cur1, rfl, -, hg, hW, hc, hb⟩; rw [hL] at hc ⊢; have H' := Zb (H.out.plus hb hg hW); have HC1 := Zb hc; clear H hb hg hW hc; have H := H'; clear H') | fail)
 have d0 : cur1[0]? = some (.string ⟨hd.toArray⟩) := HC1.out 0 (show (0 : Nat) < 1 by decide)
 go_upto_region 11 with (first | (refine a40 ?_; clear H; intro w' g2 H) | fail)
 obtain ⟨HF, HG, X, HX, HM⟩ := H.out.hid
 simp only [List.cons_append] at HM
 (refine Zo HM (by kernel_rfl) (by kernel_rfl) ?_; (try simp only [Act.put, Ze, Zc, Zd]); repeat ((fail_if_success (with_reducible refine wpQuiet_nil ?_)); first | go_big_quiet_skip | (go_big_quiet_want; first | (refine a17 ?_; go_big_quiet_op; go_big_quiet_on) | (refine a18 ?_; go_big_quiet_op; go_big_quiet_on) | (refine a41 ?_; go_big_quiet_op; go_big_quiet_on) | (go_big_quiet_op; go_big_quiet_on) | (go_big_quiet_op; refine ⟨_, fun _ _ => rfl, ?_⟩; go_big_quiet_on))))
 refine wpQuiet_nil ?_
 intro w' HM'
 clear H
 have H := Zb (Ex.made (l := (g2, 9, [.string ⟨([] : Tx).toArray⟩, .string ⟨([] : Tx).toArray⟩]) :: (g1, 9, cur1) :: l) HM'.out HG.out HX.out HF.out)
 clear HM HM' HF HG HX
 have T := HT.out
 clear HT
 cases T
 all_goals
  go_wp2_with (first | ((with_reducible apply VH H); exact rfl; exact rfl; exact oneStrs; (intro X; exact .s (.s .z)); exact d0; exact rfl) | (go_at_call 55; (with_reducible refine (HD.out _ _ _ _ _ _ H).mono ?_); clear H; rintro e w' ⟨rfl, H⟩) | fail)
  go_ret
  exact ⟨rfl, Zb H.out.drop2.drop2⟩
end
end Go.Proofs.YtgdeeiimkhjfiaaGreatDoor
