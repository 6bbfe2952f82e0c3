import Derived.Test.YtljjgakfnajifaaGreatDoorZBase
import Derived.Test.YtljjgakfnajifaaGreatDoorZNdOne
import Derived.Test.YtljjgakfnajifaaGreatDoorZNdRef3
set_option linter.unusedSimpArgs false
set_option linter.unusedVariables false
namespace Go.Proofs.YtljjgakfnajifaaGreatDoor
open Go.RowKit
def mvS : List Tx := [[74], [67, 65, 76, 76], [82, 69, 84], [82, 83, 84], [68, 74, 78, 90], [73, 82], [68, 82], [68, 68], [70, 68], [76, 68, 32, 82]]
def Kd.head : Kd → Tx
  | .k0 s => s
  | .k1 a _ => a
  | .k2 a _ _ => a
  | .k3 a _ => a
  | .k4 a _ => a
  | .k5 a _ => a
def Kd.more : Kd → Nat
  | .k0 _ => 0
  | .k1 _ _ => 1
  | .k2 _ _ _ => 2
  | .k3 _ _ => 2
  | .k4 _ _ => 1
  | .k5 _ _ => 1
def mvEx : Kd → Bool
  | .k0 s => mvS.any fun m => rHas s m
  | k => mvS.any fun m => m.isPrefixOf k.head
theorem out_more (k : Kd) (bs : List Nat) (nx : Nat) : (k.out bs nx).2 = nx + k.more := by cases k <;> rfl
theorem has_pre (m t : Tx) (hm : m ≠ []) (h : m.isPrefixOf t = true) : rHas t m = true := by
  have ht : t ≠ [] := by
    rintro rfl
    cases m with
    | nil => exact hm rfl
    | cons a b => cases h
  have e := repl_hit t m [] hm h ht
  have l1 := len_repl m [] 1 (by decide) (by decide) hm _ (t.drop m.length) (Nat.le_refl _)
  have l2 : 0 < m.length := List.length_pos_iff.2 hm
  have l3 : 0 < t.length := List.length_pos_iff.2 ht
  rw [rHas, Bool.not_eq_true', beq_eq_false_iff_ne, e, List.nil_append]
  intro he
  have := congrArg List.length he
  rw [List.length_drop] at l1
  omega
theorem pre_app (m a b : Tx) (h : m.isPrefixOf a = true) : m.isPrefixOf (a ++ b) = true := by
  rw [List.isPrefixOf_iff_prefix] at h ⊢
  exact h.trans (List.prefix_append _ _)
theorem mvS_ne : ∀ m ∈ mvS, m ≠ [] := by decide
theorem ex_has (k : Kd) (bs : List Nat) (nx : Nat) (h : mvEx k = true) : (mvS.any fun m => rHas (k.out bs nx).1 m) = true := by
  have key : ∀ a t : Tx, (mvS.any fun m => m.isPrefixOf a) = true → (mvS.any fun m => rHas (a ++ t) m) = true := by
    intro a t h
    obtain ⟨m, hm, hp⟩ := List.any_eq_true.1 h
    exact List.any_eq_true.2 ⟨m, hm, has_pre m _ (mvS_ne m hm) (pre_app m a t hp)⟩
  cases k with
  | k0 s => exact h
  | k1 a c => exact key a _ h
  | k2 a c d =>
    have := key a (sgn (bs.getD nx 0) ++ c ++ (dol (bs.getD (nx + 1) 0) ++ d)) h
    have e : (Kd.out bs nx (.k2 a c d)).1 = a ++ (sgn (bs.getD nx 0) ++ c ++ (dol (bs.getD (nx + 1) 0) ++ d)) := by
      show (a ++ (sgn (bs.getD nx 0) ++ c)) ++ (dol (bs.getD (nx + 1) 0) ++ d) = _
      simp only [List.append_assoc]
    rw [e]; exact this
  | k3 a c => exact key a _ h
  | k4 a c => exact key a _ h
  | k5 a c => exact key a _ h
def mvJ (x y z : Nat) : Bool :=
  or (and (Nat.beq x 0) (and (Nat.beq z 0) (Nat.ble 2 y)))
    (and (Nat.beq x 3) (or (or (Nat.beq z 0) (or (Nat.beq z 2) (or (Nat.beq z 4) (Nat.beq z 7)))) (or (and (Nat.beq z 1) (or (Nat.beq y 1) (Nat.beq y 5))) (or (and (Nat.beq z 3) (Nat.ble y 1)) (and (Nat.beq z 5) (Nat.beq (y % 2) 1))))))
def mvN (d x y z : Nat) : Nat :=
  if x = 0 then (if z = 1 then (if y % 2 = 0 then 2 else 0) else if z = 2 then (if y / 2 < 2 then 0 else 2) else if z = 4 ∨ z = 5 then (if y = 6 then d else 0) else if z = 6 then (if y = 6 then d + 1 else 1) else 0)
  else if x = 1 then (if y = 6 then (if z = 6 then 0 else d) else if z = 6 then d else 0)
  else if x = 2 then (if z = 6 then d else 0)
  else (if z = 3 then (if y = 2 ∨ y = 3 then 1 else 0) else if z = 6 then 1 else 0)
def mvJ2 (x y z : Nat) : Bool := or (and (Nat.beq x 1) (or (Nat.beq z 5) (and (Nat.beq z 7) (Nat.beq y 1)))) (and (Nat.beq x 2) (and (Nat.ble 6 y) (Nat.blt z 4)))
def mvN2 (x z : Nat) : Nat := if x = 1 then (if z = 3 then 2 else 0) else 0
def mvPre (o : Nat) : Bool := or (Nat.beq o 203) (or (Nat.beq o 221) (or (Nat.beq o 237) (Nat.beq o 253)))
theorem mv_plain : ([(0, 0), (3, 1), (4, 1)] : List (Nat × Nat)).all (fun p => (List.range 256).all fun o => or (mvPre o) (or (mvEx (parseK (cPat (p.1 : Int) o))) (and (!mvJ (o / 64) (o / 8 % 8) (o % 8)) (Nat.beq (parseK (cPat (p.1 : Int) o)).more (mvN p.2 (o / 64) (o / 8 % 8) (o % 8)))))) = true := by decide +kernel
theorem mv_rare : ((List.range 256).all fun o => or (mvEx (parseK (cPat 2 o))) (and (!mvJ2 (o / 64) (o / 8 % 8) (o % 8)) (Nat.beq (parseK (cPat 2 o)).more (mvN2 (o / 64) (o % 8))))) = true := by decide +kernel
theorem mv_bits : ((List.range 256).all fun o => Nat.beq (parseK (cPat 1 o)).more 0) = true := by decide +kernel
theorem mv_bitsAt : ([5, 6] : List Nat).all (fun p => (List.range 256).all fun o => Nat.beq (parseK (cPat (p : Int) o)).more 1) = true := by decide +kernel
end Go.Proofs.YtljjgakfnajifaaGreatDoor
set_option linter.unusedSimpArgs false
set_option linter.unusedVariables false
namespace Go.Proofs.YtljjgakfnajifaaGreatDoor
open Go.RowKit
theorem Rg.sp_pc (r : Rg) (n : Int) (v : Nat) : (r.setPair n v).pc = r.pc ∧ (r.setPair n v).r = r.r := by
  unfold Rg.setPair
  (repeat' split) <;> exact ⟨rfl, rfl⟩
theorem Rg.so_pc (r : Rg) (n : Int) (px v : Nat) : (r.setOne n px v).pc = r.pc ∧ (r.setOne n px v).r = r.r := by
  unfold Rg.setOne
  (repeat' split) <;> first | exact r.sp_pc _ _ | exact ⟨rfl, rfl⟩
def Goes (s t : Cs) (n : Nat) : Prop := t.r.pc = (s.r.pc + n) % 65536 ∧ t.r.r = s.r.r
namespace Goes
variable {s t : Cs}
theorem same (hp : s.r.pc < 65536) (h1 : t.r.pc = s.r.pc) (h2 : t.r.r = s.r.r) : Goes s t 0 := ⟨by rw [h1]; omega, h2⟩
theorem once (h1 : t.r.pc = up1 s.r.pc) (h2 : t.r.r = s.r.r) : Goes s t 1 := ⟨h1, h2⟩
theorem twice (h1 : t.r.pc = (s.r.pc + 2) % 65536) (h2 : t.r.r = s.r.r) : Goes s t 2 := ⟨h1, h2⟩
theorem then_ {u : Cs} {n m : Nat} (h : Goes s t n) (k : Goes t u m) : Goes s u (n + m) := ⟨by rw [k.1, h.1]; omega, k.2.trans h.2⟩
end Goes
theorem up_two (p : Nat) : up1 (up1 p) = (p + 2) % 65536 := by unfold up1; omega
def mvD (px : Nat) : Nat := if px = 0 then 0 else 1
namespace Cs
theorem point_goes (s : Cs) (hp : s.r.pc < 65536) : Goes s s.point (mvD s.px) := by
  unfold Cs.point mvD
  split
  · exact .same hp rfl rfl
  · exact .once rfl rfl
theorem setPair_goes (s : Cs) (hp : s.r.pc < 65536) (n : Int) (v : Nat) : Goes s (s.setPair n v) 0 := .same hp (s.r.sp_pc _ _).1 (s.r.sp_pc _ _).2
theorem setOne_goes (s : Cs) (hp : s.r.pc < 65536) (n : Int) (v : Nat) : Goes s (s.setOne n v) 0 := .same hp (s.r.so_pc _ _ _).1 (s.r.so_pc _ _ _).2
theorem setOwn_goes (s : Cs) (hp : s.r.pc < 65536) (n : Int) (v : Nat) : Goes s (s.setOwn n v) 0 := .same hp (s.r.so_pc _ _ _).1 (s.r.so_pc _ _ _).2
theorem point_lt (s : Cs) (hp : s.r.pc < 65536) : s.point.r.pc < 65536 := by
  rw [(s.point_goes hp).1]; exact Nat.mod_lt _ (by decide)
theorem either_ge (s : Cs) (k j : Nat) (h : 4 ≤ k) (h' : 4 ≤ j) : 4 ≤ s.either k j := by unfold Cs.either; split <;> assumption
theorem count_goes (s : Cs) (hp : s.r.pc < 65536) (y : Nat) (b : Bool) : Goes s (s.count (y : Int) b) (if y = 6 then mvD s.px else 0) := by
  unfold Cs.count
  by_cases h : y = 6
  · rw [if_pos (by omega), if_pos h]
    exact s.point_goes hp
  · rw [if_neg (by omega), if_neg h]
    exact .same hp (s.r.so_pc _ _ _).1 (s.r.so_pc _ _ _).2
theorem countC_ge (s : Cs) (y : Nat) : 4 ≤ s.countC y := by
  unfold Cs.countC
  split
  · exact s.either_ge _ _ (by decide) (by decide)
  · exact Nat.le_refl _
theorem move_goes (s : Cs) (hp : s.r.pc < 65536) (y z : Nat) : Goes s (s.move y z) (if y = 6 then (if z = 6 then 0 else mvD s.px) else if z = 6 then mvD s.px else 0) := by
  unfold Cs.move
  by_cases hy : y = 6
  · rw [if_pos hy, if_pos hy]
    by_cases hz : z = 6
    · rw [if_pos hz, if_pos hz]; exact .same hp rfl rfl
    · rw [if_neg hz, if_neg hz]; exact s.point_goes hp
  · rw [if_neg hy, if_neg hy]
    by_cases hz : z = 6
    · rw [if_pos hz, if_pos hz]
      exact (s.point_goes hp).then_ (Goes.same (s := s.point) (s.point_lt hp) (s.point.r.so_pc _ _ _).1 (s.point.r.so_pc _ _ _).2)
    · rw [if_neg hz, if_neg hz]; exact s.setOne_goes hp _ _
theorem moveC_ge (s : Cs) (y z : Nat) : 4 ≤ s.moveC y z := by
  unfold Cs.moveC
  (repeat' split) <;> first | exact Nat.le_refl _ | exact s.either_ge _ _ (by decide) (by decide)
theorem moveNext_goes (s : Cs) (hp : s.r.pc < 65536) (y : Nat) : Goes s (s.moveNext y) (if y = 6 then mvD s.px + 1 else 1) := by
  unfold Cs.moveNext
  by_cases hy : y = 6
  · rw [if_pos hy, if_pos hy]
    exact (s.point_goes hp).then_ (Goes.once (s := s.point) rfl rfl)
  · rw [if_neg hy, if_neg hy]
    exact .once (s.next.r.so_pc _ _ _).1 (s.next.r.so_pc _ _ _).2
theorem moveNextC_ge (s : Cs) (y : Nat) : 4 ≤ s.moveNextC y := by
  unfold Cs.moveNextC
  split
  · exact s.either_ge _ _ (by decide) (by decide)
  · decide
theorem moveA_goes (s : Cs) (hp : s.r.pc < 65536) (q a : Nat) : Goes s (s.moveA q a) 0 := by
  unfold Cs.moveA
  split <;> exact .same hp rfl rfl
theorem movePair_goes (s : Cs) (q : Nat) (n : Int) : Goes s (s.movePair q n) 2 := by
  unfold Cs.movePair
  split
  · exact .twice rfl rfl
  · exact .twice (Rg.sp_pc _ _ _).1 (Rg.sp_pc _ _ _).2
theorem moveFar_goes (s : Cs) (hp : s.r.pc < 65536) (y : Nat) : Goes s (s.moveFar y) (if y / 2 < 2 then 0 else 2) := by
  unfold Cs.moveFar
  by_cases h0 : y / 2 = 0
  · rw [if_pos h0, if_pos (by omega)]; exact s.moveA_goes hp _ _
  · rw [if_neg h0]
    by_cases h1 : y / 2 = 1
    · rw [if_pos h1, if_pos (by omega)]; exact s.moveA_goes hp _ _
    · rw [if_neg h1, if_neg (show ¬ y / 2 < 2 by omega)]
      by_cases h2 : y / 2 = 2
      · rw [if_pos h2]; exact s.movePair_goes _ _
      · rw [if_neg h2]
        have h : Goes s s.nextNum 2 := .twice rfl rfl
        exact h.then_ (s.nextNum.moveA_goes (Nat.mod_lt _ (by decide)) _ _)
theorem moveFarC_ge (y : Nat) : 4 ≤ Cs.moveFarC y := by
  unfold Cs.moveFarC
  (repeat' split) <;> decide
theorem oper_goes (s : Cs) (hp : s.r.pc < 65536) (z : Nat) : Goes s (s.oper (z : Int)) (if z = 6 then mvD s.px else 0) := by
  unfold Cs.oper
  by_cases h : z = 6
  · rw [if_pos (by omega), if_pos h]; exact s.point_goes hp
  · rw [if_neg (by omega), if_neg h]; exact .same hp rfl rfl
theorem operC_ge (s : Cs) (z : Nat) : 4 ≤ s.operC (z : Int) := by
  unfold Cs.operC
  split
  · exact s.either_ge _ _ (by decide) (by decide)
  · exact Nat.le_refl _
theorem swapTop_goes (s : Cs) (hp : s.r.pc < 65536) : Goes s s.swapTop 0 := .same hp (Rg.sp_pc _ _ _).1 (Rg.sp_pc _ _ _).2
theorem addPair_goes (s : Cs) (hp : s.r.pc < 65536) (n : Int) : Goes s (s.addPair n) 0 := .same hp (s.r.sp_pc _ _).1 (s.r.sp_pc _ _).2
theorem countPair_goes (s : Cs) (hp : s.r.pc < 65536) (y : Nat) : Goes s (s.countPair y) 0 := by
  unfold Cs.countPair
  split <;> exact s.setPair_goes hp _ _
theorem pop_goes (s : Cs) (hp : s.r.pc < 65536) (n : Int) : Goes s (s.pop.setPair n s.popV) 0 := .same hp (s.pop.r.sp_pc _ _).1 (s.pop.r.sp_pc _ _).2
theorem push_goes (s : Cs) (hp : s.r.pc < 65536) (v : Nat) : Goes s (s.push v) 0 :=
  .same hp (by unfold Cs.push; dsimp only) (by unfold Cs.push; dsimp only)
theorem plain_goes (s : Cs) (x y z : Nat) (hp : s.r.pc < 65536) (hj : mvJ x y z = false) (hx : x < 4) (hy : y < 8) (hz : z < 8) :
    Goes s (s.plain x y z) (mvN (mvD s.px) x y z) ∧ 4 ≤ s.plainC x y z := by
  obtain rfl | rfl | rfl | rfl : x = 0 ∨ x = 1 ∨ x = 2 ∨ x = 3 := by omega
  · show Goes s (s.plain0 y z) _ ∧ 4 ≤ s.plain0C y z
    obtain rfl | rfl | rfl | rfl | rfl | rfl | rfl | rfl : z = 0 ∨ z = 1 ∨ z = 2 ∨ z = 3 ∨ z = 4 ∨ z = 5 ∨ z = 6 ∨ z = 7 := by omega
    · obtain rfl | rfl | h : y = 0 ∨ y = 1 ∨ 2 ≤ y := by omega
      · exact ⟨.same hp rfl rfl, Nat.le_refl _⟩
      · exact ⟨.same hp rfl rfl, Nat.le_refl _⟩
      · have : mvJ 0 y 0 = Nat.ble 2 y := by unfold mvJ; cases Nat.ble 2 y <;> rfl
        rw [this, Nat.ble_eq.mpr h] at hj; cases hj
    · show Goes s (if y % 2 = 0 then s.nextNum.setPair (y / 2 : Nat) s.nextNumV else s.addPair (y / 2 : Nat)) (if y % 2 = 0 then 2 else 0) ∧ 4 ≤ (if y % 2 = 0 then 10 else 11)
      by_cases h : y % 2 = 0
      · rw [if_pos h, if_pos h, if_pos h]
        exact ⟨.twice (s.nextNum.r.sp_pc _ _).1 (s.nextNum.r.sp_pc _ _).2, by decide⟩
      · rw [if_neg h, if_neg h, if_neg h]
        exact ⟨s.addPair_goes hp _, by decide⟩
    · exact ⟨s.moveFar_goes hp y, moveFarC_ge y⟩
    · exact ⟨s.countPair_goes hp y, (by decide : 4 ≤ 6)⟩
    · exact ⟨s.count_goes hp y false, s.countC_ge y⟩
    · exact ⟨s.count_goes hp y true, s.countC_ge y⟩
    · exact ⟨s.moveNext_goes hp y, s.moveNextC_ge y⟩
    · exact ⟨.same hp rfl rfl, (by decide : 4 ≤ 4)⟩
  · exact ⟨s.move_goes hp y z, s.moveC_ge y z⟩
  · exact ⟨s.oper_goes hp z, s.operC_ge z⟩
  · show Goes s (s.plain3 y z) _ ∧ 4 ≤ s.plain3C y z
    have jz : ∀ q, mvJ 3 y q = true → q = z → False := fun q h e => by rw [e, hj] at h; cases h
    obtain rfl | rfl | rfl | rfl | rfl | rfl | rfl | rfl : z = 0 ∨ z = 1 ∨ z = 2 ∨ z = 3 ∨ z = 4 ∨ z = 5 ∨ z = 6 ∨ z = 7 := by omega
    · exact (jz 0 rfl rfl).elim
    · obtain rfl | rfl | rfl | rfl | rfl | rfl | rfl | rfl : y = 0 ∨ y = 1 ∨ y = 2 ∨ y = 3 ∨ y = 4 ∨ y = 5 ∨ y = 6 ∨ y = 7 := by omega
      · exact ⟨s.pop_goes hp _, (by decide : 4 ≤ 10)⟩
      · cases hj
      · exact ⟨s.pop_goes hp _, (by decide : 4 ≤ 10)⟩
      · exact ⟨.same hp rfl rfl, (by decide : 4 ≤ 4)⟩
      · exact ⟨s.pop_goes hp _, (by decide : 4 ≤ 10)⟩
      · cases hj
      · exact ⟨s.pop_goes hp _, (by decide : 4 ≤ 10)⟩
      · exact ⟨.same hp rfl rfl, (by decide : 4 ≤ 6)⟩
    · exact (jz 2 rfl rfl).elim
    · obtain rfl | rfl | rfl | rfl | rfl | rfl | rfl | rfl : y = 0 ∨ y = 1 ∨ y = 2 ∨ y = 3 ∨ y = 4 ∨ y = 5 ∨ y = 6 ∨ y = 7 := by omega
      · cases hj
      · cases hj
      · exact ⟨.once rfl rfl, (by decide : 4 ≤ 11)⟩
      · exact ⟨.once rfl rfl, (by decide : 4 ≤ 11)⟩
      · exact ⟨s.swapTop_goes hp, (by decide : 4 ≤ 19)⟩
      · exact ⟨.same hp rfl rfl, (by decide : 4 ≤ 4)⟩
      · exact ⟨.same hp rfl rfl, (by decide : 4 ≤ 4)⟩
      · exact ⟨.same hp rfl rfl, (by decide : 4 ≤ 4)⟩
    · exact (jz 4 rfl rfl).elim
    · by_cases h : y % 2 = 0
      · have e1 : s.plain3 y 5 = s.push (s.pair (stacked (y / 2))) := if_pos h
        have e2 : s.plain3C y 5 = 11 := if_pos h
        have e3 : mvN (mvD s.px) 3 y 5 = 0 := rfl
        rw [e1, e2, e3]
        exact ⟨s.push_goes hp _, (by decide : 4 ≤ 11)⟩
      · have : mvJ 3 y 5 = Nat.beq (y % 2) 1 := by unfold mvJ; cases Nat.beq (y % 2) 1 <;> rfl
        rw [this, show y % 2 = 1 by omega] at hj; cases hj
    · exact ⟨.once rfl rfl, (by decide : 4 ≤ 7)⟩
    · exact (jz 7 rfl rfl).elim
theorem inOne_goes (s : Cs) (hp : s.r.pc < 65536) (n : Int) : Goes s (s.inOne n) 0 := .same hp (Rg.so_pc _ _ _ _).1 (Rg.so_pc _ _ _ _).2
theorem carryPair_goes (s : Cs) (hp : s.r.pc < 65536) (b : Bool) (n : Int) : Goes s (s.carryPair b n) 0 := .same hp (Rg.sp_pc _ _ _).1 (Rg.sp_pc _ _ _).2
theorem manyOne_goes (s : Cs) (hp : s.r.pc < 65536) (z b : Nat) : Goes s (s.manyOne z b) 0 := by
  unfold Cs.manyOne
  split
  · exact .same hp (((Rg.sp_pc _ _ _).1.trans (Rg.sp_pc _ _ _).1).trans (Rg.sp_pc _ _ _).1) (((Rg.sp_pc _ _ _).2.trans (Rg.sp_pc _ _ _).2).trans (Rg.sp_pc _ _ _).2)
  · split
    · exact .same hp ((Rg.sp_pc _ _ _).1.trans (Rg.sp_pc _ _ _).1) ((Rg.sp_pc _ _ _).2.trans (Rg.sp_pc _ _ _).2)
    · split
      · exact .same hp (Rg.sp_pc _ _ _).1 (Rg.sp_pc _ _ _).2
      · exact .same hp (Rg.sp_pc _ _ _).1 (Rg.sp_pc _ _ _).2
theorem rare_goes (s : Cs) (x y z : Nat) (hp : s.r.pc < 65536) (hj : mvJ2 x y z = false) (hx : x < 4) (hy : y < 8) (hz : z < 8) :
    Goes s (s.rare x y z) (mvN2 x z) ∧ 8 ≤ s.rareC x y z := by
  obtain rfl | h1 : x = 1 ∨ ¬ x = 1 := by omega
  · show Goes s (s.rareOne y z) _ ∧ 8 ≤ Cs.rareOneC y z
    obtain rfl | rfl | rfl | rfl | rfl | rfl | rfl | rfl : z = 0 ∨ z = 1 ∨ z = 2 ∨ z = 3 ∨ z = 4 ∨ z = 5 ∨ z = 6 ∨ z = 7 := by omega
    · exact ⟨s.inOne_goes hp _, (by decide : 8 ≤ 12)⟩
    · exact ⟨.same hp rfl rfl, (by decide : 8 ≤ 12)⟩
    · exact ⟨s.carryPair_goes hp _ _, (by decide : 8 ≤ 15)⟩
    · exact ⟨s.movePair_goes _ _, (by decide : 8 ≤ 20)⟩
    · exact ⟨.same hp rfl rfl, (by decide : 8 ≤ 8)⟩
    · cases hj
    · exact ⟨.same hp rfl rfl, (by decide : 8 ≤ 8)⟩
    · obtain rfl | rfl | rfl | rfl | rfl | rfl | rfl | rfl : y = 0 ∨ y = 1 ∨ y = 2 ∨ y = 3 ∨ y = 4 ∨ y = 5 ∨ y = 6 ∨ y = 7 := by omega
      · exact ⟨.same hp rfl rfl, (by decide : 8 ≤ 9)⟩
      · cases hj
      · exact ⟨.same hp rfl rfl, (by decide : 8 ≤ 9)⟩
      · exact ⟨.same hp rfl rfl, (by decide : 8 ≤ 9)⟩
      · exact ⟨.same hp rfl rfl, (by decide : 8 ≤ 18)⟩
      · exact ⟨.same hp rfl rfl, (by decide : 8 ≤ 18)⟩
      · exact ⟨.same hp rfl rfl, (by decide : 8 ≤ 8)⟩
      · exact ⟨.same hp rfl rfl, (by decide : 8 ≤ 8)⟩
  · have e0 : mvN2 x z = 0 := if_neg h1
    rw [e0]
    unfold Cs.rare Cs.rareC
    rw [if_neg h1, if_neg h1]
    by_cases h2 : x = 2 ∧ 4 ≤ y ∧ z < 4
    · rw [if_pos h2, if_pos h2]
      have h6 : ¬ 6 ≤ y := by
        intro h6
        have : mvJ2 x y z = true := by
          unfold mvJ2
          rw [h2.1, Nat.ble_eq.mpr h6, show Nat.blt z 4 = true from Nat.ble_eq.mpr h2.2.2]; rfl
        rw [this] at hj; cases hj
      have e : s.goesOn y z = false := by unfold Cs.goesOn; rw [decide_eq_false h6]; rfl
      unfold Cs.many Cs.manyC
      rw [e]
      exact ⟨s.manyOne_goes hp _ _, (by decide : 8 ≤ 16)⟩
    · rw [if_neg h2, if_neg h2]
      exact ⟨.same hp rfl rfl, by decide⟩
theorem changed_goes (s : Cs) (x y v : Nat) : (s.changed x y v).r.pc = s.r.pc ∧ (s.changed x y v).r.r = s.r.r := by
  unfold Cs.changed; split <;> exact ⟨rfl, rfl⟩
theorem bitsAt_goes (s : Cs) (hp : s.r.pc < 65536) (x y z a : Nat) : Goes s (s.bitsAt x y z a) 0 := by
  unfold Cs.bitsAt
  split
  · exact .same hp rfl rfl
  · exact .same hp ((Rg.so_pc _ _ _ _).1.trans ((s.rd a).changed_goes x y _).1) ((Rg.so_pc _ _ _ _).2.trans ((s.rd a).changed_goes x y _).2)
theorem bitsReg_goes (s : Cs) (hp : s.r.pc < 65536) (x y z : Nat) : Goes s (s.bitsReg x y z) 0 := by
  unfold Cs.bitsReg
  split
  · exact .same hp rfl rfl
  · exact .same hp ((Rg.so_pc _ _ _ _).1.trans (s.changed_goes x y _).1) ((Rg.so_pc _ _ _ _).2.trans (s.changed_goes x y _).2)
def Few (n : Nat) : Prop := 4 ≤ n ∧ n ≤ 23
theorem few_cond (b : Bool) (x y : Nat) (hx : Few x) (hy : Few y) : Few (cond b x y) := by cases b; exact hy; exact hx
theorem few_either (s : Cs) (x y : Nat) (hx : Few x) (hy : Few y) : Few (s.either x y) := by unfold Cs.either; split <;> assumption
theorem few_hop (b : Bool) (k : Nat) (h : Few k) (h' : Few (k - 5)) : Few (Cs.hopC b k) := by cases b; exact h'; exact h
theorem few_starts (s : Cs) (y : Nat) : Few (s.startsC y) := by
  unfold Cs.startsC
  (repeat' split) <;> first | exact few_hop _ _ (by unfold Few; decide) (by unfold Few; decide) | (unfold Few; decide)
theorem few_far (y : Nat) : Few (Cs.moveFarC y) := by
  unfold Cs.moveFarC
  (repeat' split) <;> (unfold Few; decide)
theorem few_count (s : Cs) (y : Nat) : Few (s.countC y) := by
  unfold Cs.countC
  split
  · exact few_either s _ _ (by unfold Few; decide) (by unfold Few; decide)
  · unfold Few; decide
theorem few_moveNext (s : Cs) (y : Nat) : Few (s.moveNextC y) := by
  unfold Cs.moveNextC
  split
  · exact few_either s _ _ (by unfold Few; decide) (by unfold Few; decide)
  · unfold Few; decide
theorem few_move (s : Cs) (y z : Nat) : Few (s.moveC y z) := by
  unfold Cs.moveC
  (repeat' split) <;> first | exact few_either s _ _ (by unfold Few; decide) (by unfold Few; decide) | (unfold Few; decide)
theorem few_oper (s : Cs) (z : Int) : Few (s.operC z) := by
  unfold Cs.operC
  split
  · exact few_either s _ _ (by unfold Few; decide) (by unfold Few; decide)
  · unfold Few; decide
theorem few_plain0 (s : Cs) (y z : Nat) : Few (s.plain0C y z) := by
  unfold Cs.plain0C
  (repeat' split) <;> first | exact few_starts s y | exact few_far y | exact few_count s y | exact few_moveNext s y | (unfold Few; decide)
theorem few_mixed (y : Nat) : Few (Cs.mixedC y) := by
  unfold Cs.mixedC
  (repeat' split) <;> (unfold Few; decide)
theorem few_lastOdd (p : Nat) : Few (Cs.lastOddC p) := by
  unfold Cs.lastOddC
  (repeat' split) <;> (unfold Few; decide)
theorem few_plain3 (s : Cs) (y z : Nat) : Few (s.plain3C y z) := by
  unfold Cs.plain3C
  (repeat' split) <;> first | exact few_cond _ _ _ (by unfold Few; decide) (by unfold Few; decide) | exact few_mixed y | exact few_lastOdd _ | (unfold Few; decide)
theorem few_plain (s : Cs) (x y z : Nat) : Few (s.plainC x y z) := by
  unfold Cs.plainC
  (repeat' split) <;> first | exact few_plain0 s y z | exact few_move s y z | exact few_oper s _ | exact few_plain3 s y z
theorem few_odd (y : Nat) : Few (Cs.oddC y) := by
  unfold Cs.oddC
  (repeat' split) <;> (unfold Few; decide)
theorem few_rareOne (y z : Nat) : Few (Cs.rareOneC y z) := by
  unfold Cs.rareOneC
  (repeat' split) <;> first | exact few_odd y | (unfold Few; decide)
theorem few_rare (s : Cs) (x y z : Nat) : Few (s.rareC x y z) := by
  unfold Cs.rareC
  (repeat' split) <;> first | exact few_rareOne y z | exact few_cond _ _ _ (by unfold Few; decide) (by unfold Few; decide) | (unfold Few; decide)
theorem few_bits (x k : Nat) (h : Few k) (h' : Few (k - 3)) : Few (Cs.bitsC x k) := by unfold Cs.bitsC; split <;> assumption
theorem few_onBits (s : Cs) : Few s.onBitsC := by
  unfold Cs.onBitsC
  (repeat' split) <;> first | exact few_bits _ _ (by unfold Few; decide) (by unfold Few; decide) | (unfold Few; decide)
theorem few_perform (s : Cs) (o : Nat) : Few (s.performC o) := by
  unfold Cs.performC
  (repeat' split) <;> first | exact few_rare _ _ _ _ | exact few_onBits s | exact few_plain s _ _ _ | (unfold Few; decide)
theorem few_step (s : Cs) : Few s.stepC := by
  unfold Cs.stepC
  exact few_cond _ _ _ (by unfold Few; decide) (few_perform _ _)
end Cs
end Go.Proofs.YtljjgakfnajifaaGreatDoor
