import Derived.Test.YtgdeeiimkhjfiaaGreatDoorV43
import Derived.OrdersHeld
set_option maxRecDepth 100000
set_option maxHeartbeats 6400000
namespace Go.Proofs.YtgdeeiimkhjfiaaGreatDoor
open Go.RowKit
section
variable {W0 w : World} {x b tq n c : Nat} {s : Cs} {ix : Bool} {pg : Int} {l : Zj}
def zy (o : Nat) : Bool := (decide (o / 64 = 0) && decide (o / 8 % 8 = 6) && decide (4 ≤ o % 8) && decide (o % 8 ≤ 6)) || (decide (o / 64 = 1) && (decide (o / 8 % 8 = 6) != decide (o % 8 = 6))) || (decide (o / 64 = 2) && decide (o % 8 = 6))
section
variable {page : Int} {s E E' : Cs} {tq k o o' : Nat} {ix : Bool} {c : Int} {c' : Nat}
theorem Zg.fin (h : Zg (Zn page o') page s tq ix k c E) (eo : o = o' := by omega) (hk : k ≤ 4 := by decide) (ec : c = (c' : Int) := by exact rfl) (ee : E = E' := by exact rfl) : Zg (Zn page o) page s tq ix 4 (c' : Int) E' := by
 subst eo ec ee
 exact h.more hk
end
theorem Zw {o : Nat} {A B : Prop} {e : Bool} (hm : zy o = e) (a : A) (he : e = false := by simp) : (zy o = false → A) ∧ (zy o = true → B) := ⟨fun _ => a, fun h => absurd ((h.symm.trans hm).trans he) Bool.noConfusion⟩
theorem jU {o : Nat} {A B : Prop} {e : Bool} (hm : zy o = e) (b : B) (he : e = true := by simp) : (zy o = false → A) ∧ (zy o = true → B) := ⟨fun h => absurd ((h.symm.trans hm).trans he) Bool.noConfusion, fun _ => b⟩
theorem ZdS (q : Nat) (hq : Q3 q) (s : Cs) (hp : s.px = q) (hdl : s.r.dl = false) (x y z : Nat) (hx : x < 4) (hy : y < 8) (hz : z < 8) (n1 : ¬ 64 * x + 8 * y + z = 203) (n2 : ¬ 64 * x + 8 * y + z = 221) (n3 : ¬ 64 * x + 8 * y + z = 237) (n4 : ¬ 64 * x + 8 * y + z = 253) :
  (zy (64 * x + 8 * y + z) = false → ∀ tq ix, Zg (Zn (Zr q) (64 * x + 8 * y + z)) (Zr q) s tq ix 4 ((s.plainC x y z : Nat) : Int) (s.plain x y z)) ∧ (zy (64 * x + 8 * y + z) = true → Zg (Zn (Zr q) (64 * x + 8 * y + z)) (Zr q) s.point s.pointV (Nat.beq q 0).not 4 ((s.plainC x y z : Nat) : Int) (s.plain x y z)) := by
 have mb : ∀ x, x < 4 → ∀ y, y < 8 → ∀ z, z < 8 → zy (64 * x + 8 * y + z) = ((decide (x = 0) && decide (y = 6) && decide (4 ≤ z) && decide (z ≤ 6)) || (decide (x = 1) && (decide (y = 6) != decide (z = 6))) || (decide (x = 2) && decide (z = 6))) := by decide +kernel
 have hm := mb x hx y hy z hz
 clear mb
 obtain rfl | rfl | rfl | rfl : x = 0 ∨ x = 1 ∨ x = 2 ∨ x = 3 := by omega
 ·obtain rfl | rfl | rfl | rfl | rfl | rfl | rfl | rfl : z = 0 ∨ z = 1 ∨ z = 2 ∨ z = 3 ∨ z = 4 ∨ z = 5 ∨ z = 6 ∨ z = 7 := by omega
  ·obtain rfl | rfl | rfl | rfl | rfl | rfl | rfl | rfl : y = 0 ∨ y = 1 ∨ y = 2 ∨ y = 3 ∨ y = 4 ∨ y = 5 ∨ y = 6 ∨ y = 7 := by omega
   ·exact Zw hm (fun tq ix => (ZlV q hq s hp  tq ix).fin)
   ·exact Zw hm (fun tq ix => (Zjp q hq s hp  tq ix).fin)
   ·exact Zw hm (fun tq ix => (Zjq q hq s hp  tq ix).fin)
   ·exact Zw hm (fun tq ix => (pl_jr q hq s hp  tq ix).fin)
   ·exact Zw hm (fun tq ix => (U3 q hq s hp 0 (by decide) tq ix).fin)
   ·exact Zw hm (fun tq ix => (U3 q hq s hp 1 (by decide) tq ix).fin)
   ·exact Zw hm (fun tq ix => (U3 q hq s hp 2 (by decide) tq ix).fin)
   ·exact Zw hm (fun tq ix => (U3 q hq s hp 3 (by decide) tq ix).fin)
  ·obtain rfl | rfl | rfl | rfl | rfl | rfl | rfl | rfl : y = 0 ∨ y = 1 ∨ y = 2 ∨ y = 3 ∨ y = 4 ∨ y = 5 ∨ y = 6 ∨ y = 7 := by omega
   ·exact Zw hm (fun tq ix => (U1 q hq s hp 0 (by decide) tq ix).fin)
   ·exact Zw hm (fun tq ix => (U2 q hq s hp 0 (by decide) tq ix).fin)
   ·exact Zw hm (fun tq ix => (U1 q hq s hp 1 (by decide) tq ix).fin)
   ·exact Zw hm (fun tq ix => (U2 q hq s hp 1 (by decide) tq ix).fin)
   ·exact Zw hm (fun tq ix => (U1 q hq s hp 2 (by decide) tq ix).fin)
   ·exact Zw hm (fun tq ix => (U2 q hq s hp 2 (by decide) tq ix).fin)
   ·exact Zw hm (fun tq ix => (U1 q hq s hp 3 (by decide) tq ix).fin)
   ·exact Zw hm (fun tq ix => (U2 q hq s hp 3 (by decide) tq ix).fin)
  ·obtain rfl | rfl | rfl | rfl | rfl | rfl | rfl | rfl : y = 0 ∨ y = 1 ∨ y = 2 ∨ y = 3 ∨ y = 4 ∨ y = 5 ∨ y = 6 ∨ y = 7 := by omega
   ·exact Zw hm (fun tq ix => (ZfQ q hq s hp  tq ix).fin)
   ·exact Zw hm (fun tq ix => (ZfR q hq s hp  tq ix).fin)
   ·exact Zw hm (fun tq ix => (ZfS q hq s hp  tq ix).fin)
   ·exact Zw hm (fun tq ix => (ZfT q hq s hp  tq ix).fin)
   ·exact Zw hm (fun tq ix => (Zjf q hq s hp  tq ix).fin)
   ·exact Zw hm (fun tq ix => (Zjg q hq s hp  tq ix).fin)
   ·exact Zw hm (fun tq ix => (Zjh q hq s hp  tq ix).fin)
   ·exact Zw hm (fun tq ix => (Zji q hq s hp  tq ix).fin)
  ·obtain rfl | rfl | rfl | rfl | rfl | rfl | rfl | rfl : y = 0 ∨ y = 1 ∨ y = 2 ∨ y = 3 ∨ y = 4 ∨ y = 5 ∨ y = 6 ∨ y = 7 := by omega
   ·exact Zw hm (fun tq ix => (UZ q hq s hp 0 (by decide) tq ix).fin)
   ·exact Zw hm (fun tq ix => (U0 q hq s hp 0 (by decide) tq ix).fin)
   ·exact Zw hm (fun tq ix => (UZ q hq s hp 1 (by decide) tq ix).fin)
   ·exact Zw hm (fun tq ix => (U0 q hq s hp 1 (by decide) tq ix).fin)
   ·exact Zw hm (fun tq ix => (UZ q hq s hp 2 (by decide) tq ix).fin)
   ·exact Zw hm (fun tq ix => (U0 q hq s hp 2 (by decide) tq ix).fin)
   ·exact Zw hm (fun tq ix => (UZ q hq s hp 3 (by decide) tq ix).fin)
   ·exact Zw hm (fun tq ix => (U0 q hq s hp 3 (by decide) tq ix).fin)
  ·by_cases c0 : y = 6
   ·subst c0
    exact jU hm ((ZjA q hq s hp ).fin)
   ·exact Zw hm (fun tq ix => (Zjc q hq s hp y hy c0 tq ix).fin (ec := (by show _ = ((s.countC y : Nat) : Int); unfold Cs.countC; rw [if_neg c0]; rfl)) (ee := (by show _ = s.count (y : Int) false; unfold Cs.count; rw [if_neg (by omega)]))) (by simp [c0])
  ·by_cases c0 : y = 6
   ·subst c0
    exact jU hm ((ZjB q hq s hp ).fin)
   ·exact Zw hm (fun tq ix => (Zjd q hq s hp y hy c0 tq ix).fin (ec := (by show _ = ((s.countC y : Nat) : Int); unfold Cs.countC; rw [if_neg c0]; rfl)) (ee := (by show _ = s.count (y : Int) true; unfold Cs.count; rw [if_neg (by omega)]))) (by simp [c0])
  ·by_cases c0 : y = 6
   ·subst c0
    exact jU hm ((ZjC q hq s hp ).fin)
   ·exact Zw hm (fun tq ix => (Zje q hq s hp y hy c0 tq ix).fin (ec := (by show _ = ((s.moveNextC y : Nat) : Int); unfold Cs.moveNextC; rw [if_neg c0]; rfl)) (ee := (by show _ = s.moveNext y; unfold Cs.moveNext; rw [if_neg c0]))) (by simp [c0])
  ·obtain rfl | rfl | rfl | rfl | rfl | rfl | rfl | rfl : y = 0 ∨ y = 1 ∨ y = 2 ∨ y = 3 ∨ y = 4 ∨ y = 5 ∨ y = 6 ∨ y = 7 := by omega
   ·exact Zw hm (fun tq ix => (ZfU q hq s hp  tq ix).fin)
   ·exact Zw hm (fun tq ix => (ZfV q hq s hp  tq ix).fin)
   ·exact Zw hm (fun tq ix => (Zjj q hq s hp  tq ix).fin)
   ·exact Zw hm (fun tq ix => (Zjk q hq s hp  tq ix).fin)
   ·exact Zw hm (fun tq ix => (Zjl q hq s hp  tq ix).fin)
   ·exact Zw hm (fun tq ix => (Zjm q hq s hp  tq ix).fin)
   ·exact Zw hm (fun tq ix => (Zjn q hq s hp  tq ix).fin)
   ·exact Zw hm (fun tq ix => (Zjo q hq s hp  tq ix).fin)
 ·by_cases c0 : y = 6 <;> by_cases c1 : z = 6
  ·subst c0 c1
   exact Zw hm fun tq ix => (Zjb q hq s hp tq ix).fin
  ·subst c0
   exact jU hm ((Zjz q hq s hp z hz c1).fin (ec := (by show _ = (((if z = 6 then 4 else s.either 7 15) : Nat) : Int); rw [if_neg c1])) (ee := (by show _ = (if z = 6 then s.setHT true else s.point.wr s.pointV (s.own z)); rw [if_neg c1]))) (by simp [c1])
  ·subst c1
   exact jU hm ((Zjy q hq s hp y hy c0).fin (ec := (by show _ = ((s.moveC y 6 : Nat) : Int); unfold Cs.moveC; rw [if_neg c0]; rfl)) (ee := (by show _ = s.move y 6; unfold Cs.move; rw [if_neg c0]; rfl))) (by simp [c0])
  ·exact Zw hm (fun tq ix => (Zja q hq s hp y hy z hz c0 c1 tq ix).fin (ec := (by show _ = ((s.moveC y z : Nat) : Int); unfold Cs.moveC; rw [if_neg c0, if_neg c1]; rfl)) (ee := (by show _ = s.move y z; unfold Cs.move; rw [if_neg c0, if_neg c1]))) (by simp [c0, c1])
 ·by_cases c1 : z = 6 <;> by_cases ca : y = 0 ∨ y = 1 ∨ y = 3
  ·subst c1
   exact jU hm ((ZfX q hq s hp y hy ca).fin)
  ·subst c1
   exact jU hm ((ZfY q hq s hp y hy ca).fin)
  ·exact Zw hm (fun tq ix => (ZfM q hq s hp y hy z hz ca c1 tq ix).fin (ec := (by show _ = ((s.operC (z : Int) : Nat) : Int); unfold Cs.operC; rw [if_neg (by omega)]; rfl)) (ee := (by show _ = (s.oper (z : Int)).sum y (s.operV (z : Int)); unfold Cs.oper Cs.operV; rw [if_neg (by omega), if_neg (by omega)]))) (by simp [c1])
  ·exact Zw hm (fun tq ix => (ZfO q hq s hp y hy z hz ca c1 tq ix).fin (ec := (by show _ = ((s.operC (z : Int) : Nat) : Int); unfold Cs.operC; rw [if_neg (by omega)]; rfl)) (ee := (by show _ = (s.oper (z : Int)).sum y (s.operV (z : Int)); unfold Cs.oper Cs.operV; rw [if_neg (by omega), if_neg (by omega)]))) (by simp [c1])
 ·obtain rfl | rfl | rfl | rfl | rfl | rfl | rfl | rfl : z = 0 ∨ z = 1 ∨ z = 2 ∨ z = 3 ∨ z = 4 ∨ z = 5 ∨ z = 6 ∨ z = 7 := by omega
  ·exact Zw hm (fun tq ix => (ZfW q hq s hp y hy tq ix).fin)
  ·obtain rfl | rfl | rfl | rfl | rfl | rfl | rfl | rfl : y = 0 ∨ y = 1 ∨ y = 2 ∨ y = 3 ∨ y = 4 ∨ y = 5 ∨ y = 6 ∨ y = 7 := by omega
   ·exact Zw hm (fun tq ix => (vo q hq s hp 0 (by decide) tq ix).fin)
   ·exact Zw hm (fun tq ix => (ZlW q hq s hp  tq ix).fin)
   ·exact Zw hm (fun tq ix => (vo q hq s hp 1 (by decide) tq ix).fin)
   ·exact Zw hm (fun tq ix => (ZlX q hq s hp  tq ix).fin)
   ·exact Zw hm (fun tq ix => (vo q hq s hp 2 (by decide) tq ix).fin)
   ·exact Zw hm (fun tq ix => (Zjr q hq s hp  tq ix).fin)
   ·exact Zw hm (fun tq ix => (vo q hq s hp 3 (by decide) tq ix).fin)
   ·exact Zw hm (fun tq ix => (Zjs q hq s hp  tq ix).fin)
  ·exact Zw hm (fun tq ix => (Zjt q hq s hp y hy tq ix).fin)
  ·obtain rfl | rfl | rfl | rfl | rfl | rfl | rfl | rfl : y = 0 ∨ y = 1 ∨ y = 2 ∨ y = 3 ∨ y = 4 ∨ y = 5 ∨ y = 6 ∨ y = 7 := by omega
   ·exact Zw hm (fun tq ix => (pl_jp q hq s hp  tq ix).fin)
   ·exfalso; omega
   ·exact Zw hm (fun tq ix => (Zju q hq s hp  tq ix).fin)
   ·exact Zw hm (fun tq ix => (ZlY q hq s hp  tq ix).fin)
   ·exact Zw hm (fun tq ix => (Zjv q hq s hp  tq ix).fin)
   ·exact Zw hm (fun tq ix => (Zjw q hq s hp  tq ix).fin)
   ·exact Zw hm (fun tq ix => (pl_di q hq s hp hdl tq ix).fin)
   ·exact Zw hm (fun tq ix => (pl_ei q hq s hp  tq ix).fin)
  ·exact Zw hm (fun tq ix => (ZdJ q hq s hp y hy tq ix).fin)
  ·obtain rfl | rfl | rfl | rfl | rfl | rfl | rfl | rfl : y = 0 ∨ y = 1 ∨ y = 2 ∨ y = 3 ∨ y = 4 ∨ y = 5 ∨ y = 6 ∨ y = 7 := by omega
   ·exact Zw hm (fun tq ix => (U4 q hq s hp 0 (by decide) tq ix).fin)
   ·exact Zw hm (fun tq ix => (Zjx q hq s hp  tq ix).fin)
   ·exact Zw hm (fun tq ix => (U4 q hq s hp 1 (by decide) tq ix).fin)
   ·exfalso; omega
   ·exact Zw hm (fun tq ix => (U4 q hq s hp 2 (by decide) tq ix).fin)
   ·exfalso; omega
   ·exact Zw hm (fun tq ix => (U4 q hq s hp 3 (by decide) tq ix).fin)
   ·exfalso; omega
  ·by_cases ca : y = 0 ∨ y = 1 ∨ y = 3
   ·exact Zw hm (fun tq ix => (ZfN q hq s hp y hy ca tq ix).fin)
   ·exact Zw hm (fun tq ix => (ZfP q hq s hp y hy ca tq ix).fin)
  ·exact Zw hm (fun tq ix => (ZlZ q hq s hp y hy tq ix).fin)
theorem rare_no : (∀ y, y < 8 → ∀ z, z < 8 → ZdP (64 * 0 + 8 * y + z) = false) ∧ (∀ y, y < 8 → ∀ z, z < 8 → ZdP (64 * 3 + 8 * y + z) = false) ∧ (∀ y, y < 8 → ∀ z, z < 8 → ¬ (4 ≤ y ∧ z < 4) → ZdP (64 * 2 + 8 * y + z) = false) := by decide +kernel
theorem Zmk (s : Cs) (hp : s.px = 0) (x y z : Nat) (hx : x < 4) (hy : y < 8) (hz : z < 8) (tq : Nat) (ix : Bool) : Zg (Zn 2 (64 * x + 8 * y + z)) 2 s tq ix 4 ((s.rareC x y z : Nat) : Int) (s.rare x y z) := by
 obtain rfl | rfl | rfl | rfl : x = 0 ∨ x = 1 ∨ x = 2 ∨ x = 3 := by omega
 ·exact (zx s _ (by omega) (rare_no.1 y hy z hz) tq ix).fin rfl
 ·obtain rfl | rfl | rfl | rfl | rfl | rfl | rfl | rfl : z = 0 ∨ z = 1 ∨ z = 2 ∨ z = 3 ∨ z = 4 ∨ z = 5 ∨ z = 6 ∨ z = 7 := by omega
  ·by_cases c0 : y = 6
   ·subst c0; exact (Zma s hp  tq ix).fin
   ·exact (Zl9 s hp y hy c0 tq ix).fin
  ·by_cases c0 : y = 6
   ·subst c0; exact (ZjG s hp  tq ix).fin
   ·exact (ZjF s hp y hy c0 tq ix).fin
  ·obtain rfl | rfl | rfl | rfl | rfl | rfl | rfl | rfl : y = 0 ∨ y = 1 ∨ y = 2 ∨ y = 3 ∨ y = 4 ∨ y = 5 ∨ y = 6 ∨ y = 7 := by omega
   ·exact (vt s hp 0 (by decide) tq ix).fin
   ·exact (vv s hp 0 (by decide) tq ix).fin
   ·exact (vt s hp 1 (by decide) tq ix).fin
   ·exact (vv s hp 1 (by decide) tq ix).fin
   ·exact (vt s hp 2 (by decide) tq ix).fin
   ·exact (vv s hp 2 (by decide) tq ix).fin
   ·exact (vt s hp 3 (by decide) tq ix).fin
   ·exact (vv s hp 3 (by decide) tq ix).fin
  ·obtain rfl | rfl | rfl | rfl | rfl | rfl | rfl | rfl : y = 0 ∨ y = 1 ∨ y = 2 ∨ y = 3 ∨ y = 4 ∨ y = 5 ∨ y = 6 ∨ y = 7 := by omega
   ·exact (U6 s hp 0 (by decide) tq ix).fin
   ·exact (U7 s hp 0 (by decide) tq ix).fin
   ·exact (U6 s hp 1 (by decide) tq ix).fin
   ·exact (U7 s hp 1 (by decide) tq ix).fin
   ·exact (U6 s hp 2 (by decide) tq ix).fin
   ·exact (U7 s hp 2 (by decide) tq ix).fin
   ·exact (U6 s hp 3 (by decide) tq ix).fin
   ·exact (U7 s hp 3 (by decide) tq ix).fin
  ·exact (Zmb s hp y hy tq ix).fin
  ·by_cases c0 : y = 1
   ·subst c0; exact (ZjI s hp  tq ix).fin
   ·exact (ZjH s hp y hy c0 tq ix).fin
  ·exact (pe_im s hp y hy tq ix).fin
  ·obtain rfl | rfl | rfl | rfl | rfl | rfl | rfl | rfl : y = 0 ∨ y = 1 ∨ y = 2 ∨ y = 3 ∨ y = 4 ∨ y = 5 ∨ y = 6 ∨ y = 7 := by omega
   ·exact (ZjJ s hp  tq ix).fin
   ·exact (ZjK s hp  tq ix).fin
   ·exact (ZjL s hp  tq ix).fin
   ·exact (ZjM s hp  tq ix).fin
   ·exact (Zmc s hp  tq ix).fin
   ·exact (Zmd s hp  tq ix).fin
   ·exact (zx s _ (by omega) (by decide) tq ix).fin rfl
   ·exact (zx s _ (by omega) (by decide) tq ix).fin rfl
 ·by_cases cm : 4 ≤ y ∧ z < 4
  ·obtain ⟨cy, cz⟩ := cm
   obtain rfl | rfl | rfl | rfl : z = 0 ∨ z = 1 ∨ z = 2 ∨ z = 3 := by omega
   ·obtain rfl | rfl | rfl | rfl : y = 4 ∨ y = 5 ∨ y = 6 ∨ y = 7 := by omega
    ·exact (Zme s hp  tq ix).fin
    ·exact (Zmf s hp  tq ix).fin
    ·exact (ZjO s hp  tq ix).fin
    ·exact (ZjP s hp  tq ix).fin
   ·obtain rfl | rfl | rfl | rfl : y = 4 ∨ y = 5 ∨ y = 6 ∨ y = 7 := by omega
    ·exact (Zmg s hp  tq ix).fin
    ·exact (Zmh s hp  tq ix).fin
    ·exact (ZjQ s hp  tq ix).fin
    ·exact (ZjR s hp  tq ix).fin
   ·obtain rfl | rfl | rfl | rfl : y = 4 ∨ y = 5 ∨ y = 6 ∨ y = 7 := by omega
    ·exact (Zmi s hp  tq ix).fin
    ·exact (Zmj s hp  tq ix).fin
    ·exact (ZjS s hp  tq ix).fin
    ·exact (ZjT s hp  tq ix).fin
   ·obtain rfl | rfl | rfl | rfl : y = 4 ∨ y = 5 ∨ y = 6 ∨ y = 7 := by omega
    ·exact (ZjU s hp  tq ix).fin
    ·exact (ZjV s hp  tq ix).fin
    ·exact (ZjW s hp  tq ix).fin
    ·exact (ZjX s hp  tq ix).fin
  ·have e1 : s.rare 2 y z = s := by unfold Cs.rare; rw [if_neg (by decide), if_neg (fun h => cm h.2)]
   have e2 : s.rareC 2 y z = 8 := by unfold Cs.rareC; rw [if_neg (by decide), if_neg (fun h => cm h.2)]
   rw [e1, e2]
   exact (zx s _ (by omega) (rare_no.2.2 y hy z hz cm) tq ix).fin rfl
 ·exact (zx s _ (by omega) (rare_no.2.1 y hy z hz) tq ix).fin rfl
theorem VN (q a b : Nat) (hq : Q3 q) : cond (Nat.beq q 0).not (a : Int) (b : Int) = ((if q = 0 then b else a : Nat) : Int) := by rcases hq with rfl | rfl | rfl <;> rfl
theorem ZdT (q : Nat) (hq : Q3 q) (s : Cs) (tq : Nat) (ht : tq < 65536) (x y z : Nat) (hx : x < 4) (hy : y < 8) (hz : z < 8) (c0 : q = 0 → z = 6) : Zg (Zn (bpg q) (64 * x + 8 * y + z)) (bpg q) s tq (Nat.beq q 0).not 4 ((Cs.bitsC x (if q = 0 then 15 else 19) : Nat) : Int) (s.bitsAt x y z tq) := by
 obtain rfl | rfl | rfl | rfl : x = 0 ∨ x = 1 ∨ x = 2 ∨ x = 3 := by omega
 ·by_cases c1 : z = 6
  ·subst c1
   exact (Zl7 q hq s tq ht y hy).fin (by omega) (by decide) ((VN q 19 15 hq).trans rfl) rfl
  ·exact (ZjE q hq s tq ht y hy z hz c1 (fun h => c1 (c0 h))).fin (by omega) (by decide) ((VN q 19 15 hq).trans rfl) rfl
 ·exact (Zl3 q hq s tq ht y hy z hz c0).fin (by omega) (by decide) ((VN q 16 12 hq).trans (by rcases hq with rfl | rfl | rfl <;> rfl)) rfl
 ·by_cases c1 : z = 6
  ·subst c1
   exact (Zl5 q hq s tq ht y hy false).fin (by show _ = 128 + 64 * 0 + 8 * y + 6; omega) (by decide) ((VN q 19 15 hq).trans rfl) rfl
  ·exact (ZgR q hq s tq ht y hy false z hz c1 (fun h => c1 (c0 h))).fin (by show _ = 128 + 64 * 0 + 8 * y + z; omega) (by decide) ((VN q 19 15 hq).trans rfl) rfl
 ·by_cases c1 : z = 6
  ·subst c1
   exact (Zl5 q hq s tq ht y hy true).fin (by show _ = 128 + 64 * 1 + 8 * y + 6; omega) (by decide) ((VN q 19 15 hq).trans rfl) rfl
  ·exact (ZgR q hq s tq ht y hy true z hz c1 (fun h => c1 (c0 h))).fin (by show _ = 128 + 64 * 1 + 8 * y + z; omega) (by decide) ((VN q 19 15 hq).trans rfl) rfl
theorem Zml (s : Cs) (hp : s.px = 0) (tq : Nat) (ix : Bool) (x y z : Nat) (hx : x < 4) (hy : y < 8) (hz : z < 8) (c0 : ¬ z = 6) : Zg (Zn 1 (64 * x + 8 * y + z)) 1 s tq ix 4 ((8 : Nat) : Int) (s.bitsReg x y z) := by
 obtain ⟨r, px, u⟩ := s
 obtain rfl : px = 0 := hp
 obtain rfl | rfl | rfl | rfl : x = 0 ∨ x = 1 ∨ x = 2 ∨ x = 3 := by omega
 ·exact (Zl8 _ tq ix y hy z hz c0).fin
 ·exact (Zl4 _ tq ix y hy z hz c0).fin
 ·exact (Zl6 _ tq ix y hy false z hz c0).fin (by show _ = 128 + 64 * 0 + 8 * y + z; omega) (by decide) rfl rfl
 ·exact (Zl6 _ tq ix y hy true z hz c0).fin (by show _ = 128 + 64 * 1 + 8 * y + z; omega) (by decide) rfl rfl
theorem Fx.fewer {b n m : Nat} {u : U} (h : Hid (Fx W0 w b u l n)) (hm : m ≤ n) : Hid (Fx W0 w b u l m) := Zb ⟨h.out.good.less hm, h.out.own⟩
theorem pat_len : ∀ g ∈ [(0 : Int), 1, 2, 3, 4, 5, 6], ∀ o, o < 256 → (Zn g o).length ≤ 24 := by decide +kernel
theorem has_0 : ∀ o, o < 256 → zy o = true → Jh (Zn 0 o) [40, 72, 76, 41] = true := by decide +kernel
theorem has_3 : ∀ o, o < 256 → Jh (Zn 3 o) [43, 100] = zy o ∧ (zy o = true → Jh (Zn 3 o) [40, 72, 76, 41] = false) := by decide +kernel
theorem has_4 : ∀ o, o < 256 → Jh (Zn 4 o) [43, 100] = zy o ∧ (zy o = true → Jh (Zn 4 o) [40, 72, 76, 41] = false) := by decide +kernel
theorem has_1 : ∀ o, o < 256 → o % 8 = 6 → Jh (Zn 1 o) [40, 72, 76, 41] = true := by decide +kernel
theorem has_5 : ∀ o, o < 256 → Jh (Zn 5 o) [40, 72, 76, 41] = false ∧ Jh (Zn 6 o) [40, 72, 76, 41] = false := by decide +kernel
theorem Yo (o : Nat) : 64 * Cs.xOf o + 8 * Cs.yOf o + Cs.zOf o = o := by unfold Cs.xOf Cs.yOf Cs.zOf; omega
theorem VO (o : Nat) (ho : o < 256) : Cs.xOf o < 4 ∧ Cs.yOf o < 8 ∧ Cs.zOf o < 8 := by unfold Cs.xOf Cs.yOf Cs.zOf; omega
theorem jV (s : Cs) (hp : s.px = 0) : s.pair 2 = s.r.h * 256 + s.r.l := by
 obtain ⟨r, px, u⟩ := s
 obtain rfl : px = 0 := hp
 rfl
theorem ZjZ (s : Cs) (hp : s.px = 0) : s.point = s ∧ s.pointV = s.r.h * 256 + s.r.l := by
 refine ⟨by unfold Cs.point; rw [if_pos hp], ?_⟩
 unfold Cs.pointV; rw [if_pos hp]; exact jV s hp
theorem ZdU (s : Cs) (hp : s.px = 221) : s.point = s.next.setWZ (wMove s.r.ix s.nextV) ∧ s.pointV = wMove s.r.ix s.nextV := by
 obtain ⟨r, px, u⟩ := s
 obtain rfl : px = 221 := hp
 exact ⟨rfl, rfl⟩
theorem ZdV (s : Cs) (hp : s.px = 253) : s.point = s.next.setWZ (wMove s.r.iy s.nextV) ∧ s.pointV = wMove s.r.iy s.nextV := by
 obtain ⟨r, px, u⟩ := s
 obtain rfl : px = 253 := hp
 exact ⟨rfl, rfl⟩
section
variable {W0 w : World} {b n : Nat} {s : Cs} {l : Zj} {o : Nat}
theorem rs_p0 (hh : s.r.ht = false) (ho : s.begun.nextV = o) (o8 : o < 256) (hr : s.r.Fits) (h : Hid (Fx W0 w b s.u l (n + 7))) (hpx : s.r.px = 0) (h1 : ¬ o = 221) (h2 : ¬ o = 253) (h3 : ¬ o = 237) (h4 : ¬ o = 203) : CX 10 #[s.r.v, .pointer (some ⟨b, 0, none⟩)] w (.tuple #[(s.begun.fetch.plain (Cs.xOf o) (Cs.yOf o) (Cs.zOf o)).r.v, .int .i64 ((s.begun.fetch.plainC (Cs.xOf o) (Cs.yOf o) (Cs.zOf o) : Nat) : Int)]) fun w' => Hid (Fx W0 w' b (s.begun.fetch.plain (Cs.xOf o) (Cs.yOf o) (Cs.zOf o)).u l n) := by
 have hP : s.begun.fetch.px = 0 := hpx
 have hx := VO o o8
 have A := ZdS 0 (by decide) s.begun.fetch hP rfl _ _ _ hx.1 hx.2.1 hx.2.2 (by rw [Yo]; exact h4) (by rw [Yo]; exact h1) (by rw [Yo]; exact h3) (by rw [Yo]; exact h2)
 rw [Yo] at A
 obtain ⟨A1, A2⟩ := A
 have lt := pat_len 0 (by decide) o o8
 cases hm : zy o
 ·exact vj hh s.begun rfl o s.begun.fetch (Zb ho) rfl hpx h1 h2 h3 h4 (Zn 0 o) rfl lt _ rfl _ rfl 4 _ _ (A1 hm _ _) hr (Fx.fewer h (by omega))
 ·have D := A2 hm
  obtain ⟨e1, e2⟩ := ZjZ s.begun.fetch hP
  rw [e1, e2] at D
  exact vj hh s.begun rfl o s.begun.fetch (Zb ho) rfl hpx h1 h2 h3 h4 (Zn 0 o) rfl lt true (Zb (has_0 o o8 hm)) _ rfl 4 _ _ D hr (Fx.fewer h (by omega))
theorem rs_p3 (hh : s.r.ht = false) (ho : s.begun.nextV = o) (o8 : o < 256) (hr : s.r.Fits) (h : Hid (Fx W0 w b s.u l (n + 7))) (hpx : s.r.px = 221) (h1 : ¬ o = 221) (h2 : ¬ o = 253) (h3 : ¬ o = 237) (h4 : ¬ o = 203) : CX 10 #[s.r.v, .pointer (some ⟨b, 0, none⟩)] w (.tuple #[(s.begun.fetch.plain (Cs.xOf o) (Cs.yOf o) (Cs.zOf o)).r.v, .int .i64 ((s.begun.fetch.plainC (Cs.xOf o) (Cs.yOf o) (Cs.zOf o) : Nat) : Int)]) fun w' => Hid (Fx W0 w' b (s.begun.fetch.plain (Cs.xOf o) (Cs.yOf o) (Cs.zOf o)).u l n) := by
 have hP : s.begun.fetch.px = 221 := hpx
 have hx := VO o o8
 have A := ZdS 221 (by decide) s.begun.fetch hP rfl _ _ _ hx.1 hx.2.1 hx.2.2 (by rw [Yo]; exact h4) (by rw [Yo]; exact h1) (by rw [Yo]; exact h3) (by rw [Yo]; exact h2)
 rw [Yo] at A
 obtain ⟨A1, A2⟩ := A
 have lt := pat_len 3 (by decide) o o8
 have hd := has_3 o o8
 cases hm : zy o
 ·exact Uh hh s.begun rfl o s.begun.fetch (Zb ho) rfl 221 3 (by decide) hpx h1 h2 h3 h4 (Zb (hd.1.trans hm)) (Zn 3 o) rfl lt _ rfl _ rfl 4 _ _ (A1 hm _ _) hr (Fx.fewer h (by omega))
 ·have D := A2 hm
  obtain ⟨e1, e2⟩ := ZdU s.begun.fetch hP
  rw [e1, e2] at D
  exact Ui hh s.begun rfl o s.begun.fetch (Zb ho) rfl 221 3 Rg.ix (by simp) hpx h1 h2 h3 h4 (Zb (hd.1.trans hm)) _ _ _ rfl rfl rfl (Zn 3 o) rfl lt false (Zb (hd.2 hm)) _ rfl 4 _ _ D hr (Fx.fewer h (by omega))
theorem rs_p4 (hh : s.r.ht = false) (ho : s.begun.nextV = o) (o8 : o < 256) (hr : s.r.Fits) (h : Hid (Fx W0 w b s.u l (n + 7))) (hpx : s.r.px = 253) (h1 : ¬ o = 221) (h2 : ¬ o = 253) (h3 : ¬ o = 237) (h4 : ¬ o = 203) : CX 10 #[s.r.v, .pointer (some ⟨b, 0, none⟩)] w (.tuple #[(s.begun.fetch.plain (Cs.xOf o) (Cs.yOf o) (Cs.zOf o)).r.v, .int .i64 ((s.begun.fetch.plainC (Cs.xOf o) (Cs.yOf o) (Cs.zOf o) : Nat) : Int)]) fun w' => Hid (Fx W0 w' b (s.begun.fetch.plain (Cs.xOf o) (Cs.yOf o) (Cs.zOf o)).u l n) := by
 have hP : s.begun.fetch.px = 253 := hpx
 have hx := VO o o8
 have A := ZdS 253 (by decide) s.begun.fetch hP rfl _ _ _ hx.1 hx.2.1 hx.2.2 (by rw [Yo]; exact h4) (by rw [Yo]; exact h1) (by rw [Yo]; exact h3) (by rw [Yo]; exact h2)
 rw [Yo] at A
 obtain ⟨A1, A2⟩ := A
 have lt := pat_len 4 (by decide) o o8
 have hd := has_4 o o8
 cases hm : zy o
 ·exact Uh hh s.begun rfl o s.begun.fetch (Zb ho) rfl 253 4 (by decide) hpx h1 h2 h3 h4 (Zb (hd.1.trans hm)) (Zn 4 o) rfl lt _ rfl _ rfl 4 _ _ (A1 hm _ _) hr (Fx.fewer h (by omega))
 ·have D := A2 hm
  obtain ⟨e1, e2⟩ := ZdV s.begun.fetch hP
  rw [e1, e2] at D
  exact Ui hh s.begun rfl o s.begun.fetch (Zb ho) rfl 253 4 Rg.iy (by simp) hpx h1 h2 h3 h4 (Zb (hd.1.trans hm)) _ _ _ rfl rfl rfl (Zn 4 o) rfl lt false (Zb (hd.2 hm)) _ rfl 4 _ _ D hr (Fx.fewer h (by omega))
theorem rs_ed (hh : s.r.ht = false) (ho : s.begun.nextV = o) (hr : s.r.Fits) (h : Hid (Fx W0 w b s.u l (n + 7))) (h4 : o = 237) : CX 10 #[s.r.v, .pointer (some ⟨b, 0, none⟩)] w (.tuple #[(((s.begun.fetch.ahead 0).fetch).rare (Cs.xOf s.begun.fetch.nextV) (Cs.yOf s.begun.fetch.nextV) (Cs.zOf s.begun.fetch.nextV)).r.v, .int .i64 ((((s.begun.fetch.ahead 0).fetch).rareC (Cs.xOf s.begun.fetch.nextV) (Cs.yOf s.begun.fetch.nextV) (Cs.zOf s.begun.fetch.nextV) : Nat) : Int)]) fun w' => Hid (Fx W0 w' b (((s.begun.fetch.ahead 0).fetch).rare (Cs.xOf s.begun.fetch.nextV) (Cs.yOf s.begun.fetch.nextV) (Cs.zOf s.begun.fetch.nextV)).u l n) := by
 obtain ⟨p, hp⟩ : ∃ p, s.begun.fetch.nextV = p := ⟨_, rfl⟩
 have p8 : p < 256 := by rw [← hp]; exact h.out.good.m8 _
 rw [hp]
 have hx := VO p p8
 have A := fun tq => Zmk ((s.begun.fetch.ahead 0).fetch) rfl _ _ _ hx.1 hx.2.1 hx.2.2 tq false
 rw [Yo] at A
 exact ZfK hh s.begun rfl o s.begun.fetch (Zb ho) rfl h4 p s.begun.fetch.fetch (Zb hp) rfl (Zn 2 p) rfl (pat_len 2 (by decide) p p8) _ rfl _ rfl 4 _ _ (Zg.ahead (p := 0) (A _)) hr (Fx.fewer h (by omega))
theorem rs_cb (hh : s.r.ht = false) (ho : s.begun.nextV = o) (hr : s.r.Fits) (h : Hid (Fx W0 w b s.u l (n + 7))) (hq : Q3 s.r.px) (h4 : o = 203) : CX 10 #[s.r.v, .pointer (some ⟨b, 0, none⟩)] w (.tuple #[(s.begun.fetch.onBits).r.v, .int .i64 ((s.begun.fetch.onBitsC : Nat) : Int)]) fun w' => Hid (Fx W0 w' b (s.begun.fetch.onBits).u l n) := by
 rcases hq with hpx | hpx | hpx
 ·have hP : s.begun.fetch.px = 0 := hpx
  have hP2 : s.begun.fetch.fetch.px = 0 := hpx
  obtain ⟨p, hp⟩ : ∃ p, s.begun.fetch.nextV = p := ⟨_, rfl⟩
  have p8 : p < 256 := by rw [← hp]; exact h.out.good.m8 _
  have hx := VO p p8
  unfold Cs.onBits Cs.onBitsC
  rw [if_pos hP, if_pos hP, hp]
  by_cases hz : Cs.zOf p = 6
  ·rw [if_pos hz, if_pos hz, jV _ hP2]
   have A := ZdT 0 (by decide) s.begun.fetch.fetch (s.begun.fetch.fetch.r.h * 256 + s.begun.fetch.fetch.r.l) (by rw [← jV _ hP2]; exact Rg.pair_lt _ (Z5 (Yz hr |> Z5)) _) _ _ _ hx.1 hx.2.1 hx.2.2 (fun _ => hz)
   rw [Yo] at A
   exact vk hh s.begun rfl o s.begun.fetch (Zb ho) rfl hpx h4 p s.begun.fetch.fetch (Zb hp) rfl (Zn 1 p) rfl (pat_len 1 (by decide) p p8) true (Zb (has_1 p p8 hz)) _ rfl 4 _ _ A hr (Fx.fewer h (by omega))
  ·rw [if_neg hz, if_neg hz]
   have A := fun tq => Zml s.begun.fetch.fetch hP2 tq false _ _ _ hx.1 hx.2.1 hx.2.2 hz
   rw [Yo] at A
   exact vk hh s.begun rfl o s.begun.fetch (Zb ho) rfl hpx h4 p s.begun.fetch.fetch (Zb hp) rfl (Zn 1 p) rfl (pat_len 1 (by decide) p p8) _ rfl _ rfl 4 _ _ (A _) hr (Fx.fewer h (by omega))
 ·have hP : s.begun.fetch.px = 221 := hpx
  obtain ⟨e1, e2⟩ := ZdU s.begun.fetch hP
  unfold Cs.onBits Cs.onBitsC
  rw [if_neg (by rw [hP]; decide), if_neg (by rw [hP]; decide), e1, e2]
  obtain ⟨p, hp⟩ : ∃ p, (s.begun.fetch.next.setWZ (wMove s.begun.fetch.r.ix s.begun.fetch.nextV)).nextV = p := ⟨_, rfl⟩
  have p8 : p < 256 := by rw [← hp]; exact h.out.good.m8 _
  have hx := VO p p8
  rw [hp]
  have A := ZdT 221 (by decide) (s.begun.fetch.next.setWZ (wMove s.begun.fetch.r.ix s.begun.fetch.nextV)).next (wMove s.begun.fetch.r.ix s.begun.fetch.nextV) (Zt _ _) _ _ _ hx.1 hx.2.1 hx.2.2 (fun h => absurd h (by decide))
  rw [Yo] at A
  exact zo hh s.begun rfl o s.begun.fetch (Zb ho) rfl 221 5 Rg.ix (by simp) hpx h4 _ _ _ rfl rfl rfl p _ (Zb hp) rfl (Zn 5 p) rfl (pat_len 5 (by decide) p p8) false (Zb (has_5 p p8).1) _ rfl 4 _ _ A hr (Fx.fewer h (by omega))
 ·have hP : s.begun.fetch.px = 253 := hpx
  obtain ⟨e1, e2⟩ := ZdV s.begun.fetch hP
  unfold Cs.onBits Cs.onBitsC
  rw [if_neg (by rw [hP]; decide), if_neg (by rw [hP]; decide), e1, e2]
  obtain ⟨p, hp⟩ : ∃ p, (s.begun.fetch.next.setWZ (wMove s.begun.fetch.r.iy s.begun.fetch.nextV)).nextV = p := ⟨_, rfl⟩
  have p8 : p < 256 := by rw [← hp]; exact h.out.good.m8 _
  have hx := VO p p8
  rw [hp]
  have A := ZdT 253 (by decide) (s.begun.fetch.next.setWZ (wMove s.begun.fetch.r.iy s.begun.fetch.nextV)).next (wMove s.begun.fetch.r.iy s.begun.fetch.nextV) (Zt _ _) _ _ _ hx.1 hx.2.1 hx.2.2 (fun h => absurd h (by decide))
  rw [Yo] at A
  exact zo hh s.begun rfl o s.begun.fetch (Zb ho) rfl 253 6 Rg.iy (by simp) hpx h4 _ _ _ rfl rfl rfl p _ (Zb hp) rfl (Zn 6 p) rfl (pat_len 6 (by decide) p p8) false (Zb (has_5 p p8).2) _ rfl 4 _ _ A hr (Fx.fewer h (by omega))
theorem Zf5 (hq : Q3 s.r.px) (hr : s.r.Fits) (h : Hid (Fx W0 w b s.u l (n + 7))) : CX 10 #[s.r.v, .pointer (some ⟨b, 0, none⟩)] w (.tuple #[(s.step).r.v, .int .i64 ((s.stepC : Nat) : Int)]) fun w' => Hid (Fx W0 w' b (s.step).u l n) := by
 cases hh : s.r.ht
 ·obtain ⟨o, ho⟩ : ∃ o, s.begun.nextV = o := ⟨_, rfl⟩
  have o8 : o < 256 := by rw [← ho]; exact h.out.good.m8 _
  have e1 : s.step = s.begun.fetch.perform o := by unfold Cs.step; rw [hh, ho]; rfl
  have e2 : s.stepC = s.begun.fetch.performC o := by unfold Cs.stepC; rw [hh, ho]; rfl
  rw [e1, e2]
  unfold Cs.perform Cs.performC
  by_cases h1 : o = 221
  ·rw [if_pos h1, if_pos h1]
   exact vh hh s.begun rfl o s.begun.fetch (Zb ho) rfl (.inl h1) hr (Fx.fewer h (by omega))
  rw [if_neg h1, if_neg h1]
  by_cases h2 : o = 253
  ·rw [if_pos h2, if_pos h2]
   exact vh hh s.begun rfl o s.begun.fetch (Zb ho) rfl (.inr h2) hr (Fx.fewer h (by omega))
  rw [if_neg h2, if_neg h2]
  by_cases h3 : o = 237
  ·rw [if_pos h3, if_pos h3]
   exact rs_ed hh ho hr h h3
  rw [if_neg h3, if_neg h3]
  by_cases h4 : o = 203
  ·rw [if_pos h4, if_pos h4]
   exact rs_cb hh ho hr h hq h4
  rw [if_neg h4, if_neg h4]
  rcases hq with hpx | hpx | hpx
  ·exact rs_p0 hh ho o8 hr h hpx h1 h2 h3 h4
  ·exact rs_p3 hh ho o8 hr h hpx h1 h2 h3 h4
  ·exact rs_p4 hh ho o8 hr h hpx h1 h2 h3 h4
 ·have e1 : s.step = s.tick := by unfold Cs.step; rw [hh]; rfl
  have e2 : s.stepC = 4 := by unfold Cs.stepC; rw [hh]; rfl
  rw [e1, e2]
  exact ZfJ hh hr (Fx.fewer h (by omega))
end
theorem k70 {P : Prop} (h : P := by
 have HM := Zb (Own.start w)
 go_enter Tryz.func6, Tryz.ntmps6
 go_upto_region 1 with (first | (refine a0 ?_; clear HM; intro w' g' HM))
 exact k1) : P := h
theorem KI (r : Rg) (b : Bool) (hb : Hid (r.right = b)) (w : World) : CB 6 #[r.v] w (.bool b) := by
 by_cases h0 : (r.im : Int) < 3
 ·have h0' : r.im ≤ 2 := by omega
  rcases (show r.px = 0 ∨ r.px = 221 ∨ r.px = 253 ∨ (¬ r.px = 0 ∧ ¬ r.px = 221 ∧ ¬ r.px = 253) by omega) with h1 | h1 | h1 | ⟨h1, h2, h3⟩
  ·have e : b = true := by rw [← hb.out]; simp [Rg.right, h0', h1]
   clear hb h0'
   obtain ⟨a, f, b, c, d, e1, h, l, x0, x1, x2, x3, x4, x5, x6, x7, ix, iy, sp, pc, wz, i, r, im, px, q1, q2, ht, dl⟩ := r
   simp only at h1 h0
   subst e h1
   exact k70
  ·have e : b = true := by rw [← hb.out]; simp [Rg.right, h0', h1]
   have h4 : ((r.px : Int) == 0) = false := by rw [h1]; rfl
   have h5 : ((r.px : Int) == 221) = true := by rw [h1]; rfl
   subst e
   exact k70
  ·have e : b = true := by rw [← hb.out]; simp [Rg.right, h0', h1]
   have h4 : ((r.px : Int) == 0) = false := by rw [h1]; rfl
   have h5 : ((r.px : Int) == 221) = false := by rw [h1]; rfl
   have h6 : ((r.px : Int) == 253) = true := by rw [h1]; rfl
   subst e
   exact k70
  ·have e : b = false := by rw [← hb.out]; simp [Rg.right, h1, h2, h3]
   have h4 : ((r.px : Int) == 0) = false := by simp; omega
   have h5 : ((r.px : Int) == 221) = false := by simp; omega
   have h6 : ((r.px : Int) == 253) = false := by simp; omega
   subst e
   exact k70
 ·have e : b = false := by rw [← hb.out]; simp [Rg.right]; omega
  subst e
  exact k70
section
variable {P : Program} {W0 w : World} {l l' : List (Nat × TypeId × List Value)} {ops : Array Oper} {o : Oper} {a : Act} {Q : Exit → Act → World → Prop} {K : Act → World → Prop} {S : World → Prop} {v : Value}
theorem Y3 {i : Nat} (hi : ops[i]? = some o) (hw : Region.wanted o (yielded ops a.tmps) = true) (h : o.wp P a w K Q) : wpOp P ops Q i K a w := by
 unfold wpOp; simp only [hi, hw, if_true]; exact .inl h
theorem Zmm {ty t : TypeId} {x : Operand} {g n : Nat} {cs : List Value} (ho : o.op = .load ty x) (hx : a.eval x = .pointer (some ⟨g, 0, none⟩)) (hty : Agg P ty n)
  (hs : Sel l g t cs) (hl : cs.length = n) (hw : Region.wanted o (yielded ops a.tmps) = true) : YieldsIf P ops (fun w' => Own W0 w' l) o (.agg cs.toArray) a := by
 obtain ⟨⟨d, hu, hr⟩, hsz⟩ := hty
 refine .inl ⟨hw, fun w hC => ?_⟩
 unfold execOp
 have hrun := run_loadVar_mid (P := P) w g 0 ty cs d (fun j v hv => by rw [(hC.at_ hs).at_, Nat.zero_add]; exact hv) hu hr (by rw [hl]; exact hsz)
 simp only [ho, hx, Instr.loadAt, Instr.sureAddr, Sem.run_bind, Sem.run_pure, Result.andThen_ok, hrun]
theorem KR (hw : Region.wanted o (yielded ops a.tmps) = true) (h : ∀ w, (execOp a.eval o).run P w = .ok (.value v) w) : YieldsIf P ops S o v a := .inl ⟨hw, fun w _ => h w⟩
theorem ZgT {f : FuncId} {args args' : Array Value} (hx : ∀ w, (execOp a.eval o).run P w = .ok (.enter f args') w) (ha : args' = args) (hc : Calls P f args w fun e w' => ∃ u, e = .returned u ∧ K (a.put o.dst u) w') : o.wp P a w K Q := by
 subst ha
 unfold Oper.wp
 rw [hx w, Oper.upon_enter]
 exact hc.mono fun e w' ⟨u, he, hk⟩ => by subst he; exact hk
theorem YY {md : Region.Mode} {i d : Nat} {oi : Oper} {fuel : Nat} {listed : Array Bool} (hi : ops[i]? = some oi) (hd : oi.dst = some d)
  (hs : Region.noSelect ops = true) (hf : Region.free md ops listed i = true) (hr : (Region.ready md ops listed).contains i = true)
  (hQ : ∀ c a w, Q (.panic c) (a.put (some d) v) w → Q (.panic c) a w) (hy : YieldsIf P ops S oi v a) (hS : S w)
  (h : wpAnyH P md ops Q S fuel (listed.setIfInBounds i true) (a.put (some d) v) w) : wpAnyH P md ops Q S (fuel + 1) listed a w :=
 wpAnyH_take hi hs hf hr (by rw [hd]; exact hQ) hy hS (by rw [hd]; exact h)
theorem U8 {ty : TypeId} {vs : List Value} (HM : Hid (Own W0 w l)) (ho : o.op = .alloc ty) (hz : ZgV P ty vs)
  (h : ∀ w' g, Hid (Own W0 w' ((g, ty, vs) :: l)) → K (a.put o.dst (.pointer (some ⟨g, 0, none⟩))) w') : o.wp P a w K Q := by
 obtain ⟨z, hz, hv⟩ := hz
 unfold Oper.wp execOp
 simp only [ho, Instr.alloc, Sem.run_bind, hz, Result.andThen_ok, newVar, newRow, newObj, hv]
 exact h _ _ (HM.out.new ty vs)
theorem Zf6 {ty t : TypeId} {x y : Operand} {g n : Nat} {cs vs : List Value} (HM : Hid (Own W0 w l)) (ho : o.op = .store ty x y) (hx : a.eval x = .pointer (some ⟨g, 0, none⟩)) (hv : a.eval y = .agg vs.toArray)
  (hsel : Sel l g t cs) (hs : Put l g t cs vs l') (hty : j5 P ty n) (hn : vs.length = n) (hl : cs.length = n) (h1 : vs.all (·.oneCell') = true)
  (hd : o.dst = none) (h : ∀ w', Hid (Own W0 w' l') → K a w') : o.wp P a w K Q := by
 have h : ∀ w', Hid (Own W0 w' l') → K (a.put o.dst undef) w' := by rw [hd]; exact h
 have hwh := (HM.out.whole _ hsel.mem).2
 exact wp_store_row ty x y ho g vs.toArray hx hv t cs.toArray hwh (by unfold j5 at hty; simpa [hn] using hty) (by simp [hl, hn]) (by simpa using h1) (h _ (HM.out.of_row hs))
end
end
end Go.Proofs.YtgdeeiimkhjfiaaGreatDoor
