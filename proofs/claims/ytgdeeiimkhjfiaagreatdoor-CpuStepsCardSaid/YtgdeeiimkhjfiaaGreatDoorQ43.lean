import Derived.Test.YtgdeeiimkhjfiaaGreatDoorQ42
import Derived.OrdersHeld
set_option maxRecDepth 100000
set_option maxHeartbeats 6400000
namespace Go.Proofs.YtgdeeiimkhjfiaaGreatDoor
open Go.RowKit
section
variable {W0 w : World} {x b tq n c : Nat} {s : Cs} {ix : Bool} {pg : Int} {l : Blocks}
def memB (o : Nat) : Bool := (decide (o / 64 = 0) && decide (o / 8 % 8 = 6) && decide (4 ≤ o % 8) && decide (o % 8 ≤ 6)) || (decide (o / 64 = 1) && (decide (o / 8 % 8 = 6) != decide (o % 8 = 6))) || (decide (o / 64 = 2) && decide (o % 8 = 6))
section
variable {page : Int} {s E E' : Cs} {tq k o o' : Nat} {ix : Bool} {c : Int} {c' : Nat}
theorem RunDoes.fin (h : RunDoes (rPat page o') page s tq ix k c E) (eo : o = o' := by omega) (hk : k ≤ 4 := by decide) (ec : c = (c' : Int) := by exact rfl) (ee : E = E' := by exact rfl) : RunDoes (rPat page o) page s tq ix 4 (c' : Int) E' := by
 subst eo ec ee
 exact h.more hk
end
theorem onlyN {o : Nat} {A B : Prop} {e : Bool} (hm : memB o = e) (a : A) (he : e = false := by simp) : (memB o = false → A) ∧ (memB o = true → B) := ⟨fun _ => a, fun h => absurd ((h.symm.trans hm).trans he) Bool.noConfusion⟩
theorem onlyM {o : Nat} {A B : Prop} {e : Bool} (hm : memB o = e) (b : B) (he : e = true := by simp) : (memB o = false → A) ∧ (memB o = true → B) := ⟨fun h => absurd ((h.symm.trans hm).trans he) Bool.noConfusion, fun _ => b⟩
theorem pl_all (q : Nat) (hq : Q3 q) (s : Cs) (hp : s.px = q) (hdl : s.r.dl = false) (x y z : Nat) (hx : x < 4) (hy : y < 8) (hz : z < 8) (n1 : ¬ 64 * x + 8 * y + z = 203) (n2 : ¬ 64 * x + 8 * y + z = 221) (n3 : ¬ 64 * x + 8 * y + z = 237) (n4 : ¬ 64 * x + 8 * y + z = 253) :
  (memB (64 * x + 8 * y + z) = false → ∀ tq ix, RunDoes (rPat (pgOf q) (64 * x + 8 * y + z)) (pgOf q) s tq ix 4 ((s.plainC x y z : Nat) : Int) (s.plain x y z)) ∧ (memB (64 * x + 8 * y + z) = true → RunDoes (rPat (pgOf q) (64 * x + 8 * y + z)) (pgOf q) s.point s.pointV (Nat.beq q 0).not 4 ((s.plainC x y z : Nat) : Int) (s.plain x y z)) := by
 have mb : ∀ x, x < 4 → ∀ y, y < 8 → ∀ z, z < 8 → memB (64 * x + 8 * y + z) = ((decide (x = 0) && decide (y = 6) && decide (4 ≤ z) && decide (z ≤ 6)) || (decide (x = 1) && (decide (y = 6) != decide (z = 6))) || (decide (x = 2) && decide (z = 6))) := by decide +kernel
 have hm := mb x hx y hy z hz
 clear mb
 obtain rfl | rfl | rfl | rfl : x = 0 ∨ x = 1 ∨ x = 2 ∨ x = 3 := by omega
 ·obtain rfl | rfl | rfl | rfl | rfl | rfl | rfl | rfl : z = 0 ∨ z = 1 ∨ z = 2 ∨ z = 3 ∨ z = 4 ∨ z = 5 ∨ z = 6 ∨ z = 7 := by omega
  ·obtain rfl | rfl | rfl | rfl | rfl | rfl | rfl | rfl : y = 0 ∨ y = 1 ∨ y = 2 ∨ y = 3 ∨ y = 4 ∨ y = 5 ∨ y = 6 ∨ y = 7 := by omega
   ·exact onlyN hm (fun tq ix => (pl_nop q hq s hp  tq ix).fin)
   ·exact onlyN hm (fun tq ix => (pl_exaf q hq s hp  tq ix).fin)
   ·exact onlyN hm (fun tq ix => (pl_djnz q hq s hp  tq ix).fin)
   ·exact onlyN hm (fun tq ix => (pl_jr q hq s hp  tq ix).fin)
   ·exact onlyN hm (fun tq ix => (pl_jrcc q hq s hp 0 (by decide) tq ix).fin)
   ·exact onlyN hm (fun tq ix => (pl_jrcc q hq s hp 1 (by decide) tq ix).fin)
   ·exact onlyN hm (fun tq ix => (pl_jrcc q hq s hp 2 (by decide) tq ix).fin)
   ·exact onlyN hm (fun tq ix => (pl_jrcc q hq s hp 3 (by decide) tq ix).fin)
  ·obtain rfl | rfl | rfl | rfl | rfl | rfl | rfl | rfl : y = 0 ∨ y = 1 ∨ y = 2 ∨ y = 3 ∨ y = 4 ∨ y = 5 ∨ y = 6 ∨ y = 7 := by omega
   ·exact onlyN hm (fun tq ix => (pl_ldpn q hq s hp 0 (by decide) tq ix).fin)
   ·exact onlyN hm (fun tq ix => (pl_addp q hq s hp 0 (by decide) tq ix).fin)
   ·exact onlyN hm (fun tq ix => (pl_ldpn q hq s hp 1 (by decide) tq ix).fin)
   ·exact onlyN hm (fun tq ix => (pl_addp q hq s hp 1 (by decide) tq ix).fin)
   ·exact onlyN hm (fun tq ix => (pl_ldpn q hq s hp 2 (by decide) tq ix).fin)
   ·exact onlyN hm (fun tq ix => (pl_addp q hq s hp 2 (by decide) tq ix).fin)
   ·exact onlyN hm (fun tq ix => (pl_ldpn q hq s hp 3 (by decide) tq ix).fin)
   ·exact onlyN hm (fun tq ix => (pl_addp q hq s hp 3 (by decide) tq ix).fin)
  ·obtain rfl | rfl | rfl | rfl | rfl | rfl | rfl | rfl : y = 0 ∨ y = 1 ∨ y = 2 ∨ y = 3 ∨ y = 4 ∨ y = 5 ∨ y = 6 ∨ y = 7 := by omega
   ·exact onlyN hm (fun tq ix => (pl_ldBCa q hq s hp  tq ix).fin)
   ·exact onlyN hm (fun tq ix => (pl_ldaBC q hq s hp  tq ix).fin)
   ·exact onlyN hm (fun tq ix => (pl_ldDEa q hq s hp  tq ix).fin)
   ·exact onlyN hm (fun tq ix => (pl_ldaDE q hq s hp  tq ix).fin)
   ·exact onlyN hm (fun tq ix => (pl_ldNp q hq s hp  tq ix).fin)
   ·exact onlyN hm (fun tq ix => (pl_ldpN q hq s hp  tq ix).fin)
   ·exact onlyN hm (fun tq ix => (pl_ldNa q hq s hp  tq ix).fin)
   ·exact onlyN hm (fun tq ix => (pl_ldaN q hq s hp  tq ix).fin)
  ·obtain rfl | rfl | rfl | rfl | rfl | rfl | rfl | rfl : y = 0 ∨ y = 1 ∨ y = 2 ∨ y = 3 ∨ y = 4 ∨ y = 5 ∨ y = 6 ∨ y = 7 := by omega
   ·exact onlyN hm (fun tq ix => (pl_incp q hq s hp 0 (by decide) tq ix).fin)
   ·exact onlyN hm (fun tq ix => (pl_decp q hq s hp 0 (by decide) tq ix).fin)
   ·exact onlyN hm (fun tq ix => (pl_incp q hq s hp 1 (by decide) tq ix).fin)
   ·exact onlyN hm (fun tq ix => (pl_decp q hq s hp 1 (by decide) tq ix).fin)
   ·exact onlyN hm (fun tq ix => (pl_incp q hq s hp 2 (by decide) tq ix).fin)
   ·exact onlyN hm (fun tq ix => (pl_decp q hq s hp 2 (by decide) tq ix).fin)
   ·exact onlyN hm (fun tq ix => (pl_incp q hq s hp 3 (by decide) tq ix).fin)
   ·exact onlyN hm (fun tq ix => (pl_decp q hq s hp 3 (by decide) tq ix).fin)
  ·by_cases c0 : y = 6
   ·subst c0
    exact onlyM hm ((pl_incm q hq s hp ).fin)
   ·exact onlyN hm (fun tq ix => (pl_incr q hq s hp y hy c0 tq ix).fin (ec := (by show _ = ((s.countC y : Nat) : Int); unfold Cs.countC; rw [if_neg c0]; rfl)) (ee := (by show _ = s.count (y : Int) false; unfold Cs.count; rw [if_neg (by omega)]))) (by simp [c0])
  ·by_cases c0 : y = 6
   ·subst c0
    exact onlyM hm ((pl_decm q hq s hp ).fin)
   ·exact onlyN hm (fun tq ix => (pl_decr q hq s hp y hy c0 tq ix).fin (ec := (by show _ = ((s.countC y : Nat) : Int); unfold Cs.countC; rw [if_neg c0]; rfl)) (ee := (by show _ = s.count (y : Int) true; unfold Cs.count; rw [if_neg (by omega)]))) (by simp [c0])
  ·by_cases c0 : y = 6
   ·subst c0
    exact onlyM hm ((pl_ldmn q hq s hp ).fin)
   ·exact onlyN hm (fun tq ix => (pl_ldrn q hq s hp y hy c0 tq ix).fin (ec := (by show _ = ((s.moveNextC y : Nat) : Int); unfold Cs.moveNextC; rw [if_neg c0]; rfl)) (ee := (by show _ = s.moveNext y; unfold Cs.moveNext; rw [if_neg c0]))) (by simp [c0])
  ·obtain rfl | rfl | rfl | rfl | rfl | rfl | rfl | rfl : y = 0 ∨ y = 1 ∨ y = 2 ∨ y = 3 ∨ y = 4 ∨ y = 5 ∨ y = 6 ∨ y = 7 := by omega
   ·exact onlyN hm (fun tq ix => (pl_qrlca q hq s hp  tq ix).fin)
   ·exact onlyN hm (fun tq ix => (pl_qrrca q hq s hp  tq ix).fin)
   ·exact onlyN hm (fun tq ix => (pl_qrla q hq s hp  tq ix).fin)
   ·exact onlyN hm (fun tq ix => (pl_qrra q hq s hp  tq ix).fin)
   ·exact onlyN hm (fun tq ix => (pl_qdaa q hq s hp  tq ix).fin)
   ·exact onlyN hm (fun tq ix => (pl_qcpl q hq s hp  tq ix).fin)
   ·exact onlyN hm (fun tq ix => (pl_qscf q hq s hp  tq ix).fin)
   ·exact onlyN hm (fun tq ix => (pl_qccf q hq s hp  tq ix).fin)
 ·by_cases c0 : y = 6 <;> by_cases c1 : z = 6
  ·subst c0 c1
   exact onlyN hm fun tq ix => (pl_halt q hq s hp tq ix).fin
  ·subst c0
   exact onlyM hm ((pl_ldmr q hq s hp z hz c1).fin (ec := (by show _ = (((if z = 6 then 4 else s.either 7 15) : Nat) : Int); rw [if_neg c1])) (ee := (by show _ = (if z = 6 then s.setHT true else s.point.wr s.pointV (s.own z)); rw [if_neg c1]))) (by simp [c1])
  ·subst c1
   exact onlyM hm ((pl_ldrm q hq s hp y hy c0).fin (ec := (by show _ = ((s.moveC y 6 : Nat) : Int); unfold Cs.moveC; rw [if_neg c0]; rfl)) (ee := (by show _ = s.move y 6; unfold Cs.move; rw [if_neg c0]; rfl))) (by simp [c0])
  ·exact onlyN hm (fun tq ix => (pl_ldrr q hq s hp y hy z hz c0 c1 tq ix).fin (ec := (by show _ = ((s.moveC y z : Nat) : Int); unfold Cs.moveC; rw [if_neg c0, if_neg c1]; rfl)) (ee := (by show _ = s.move y z; unfold Cs.move; rw [if_neg c0, if_neg c1]))) (by simp [c0, c1])
 ·by_cases c1 : z = 6 <;> by_cases ca : y = 0 ∨ y = 1 ∨ y = 3
  ·subst c1
   exact onlyM hm ((pl_sumam q hq s hp y hy ca).fin)
  ·subst c1
   exact onlyM hm ((pl_sumbm q hq s hp y hy ca).fin)
  ·exact onlyN hm (fun tq ix => (pl_sumar q hq s hp y hy z hz ca c1 tq ix).fin (ec := (by show _ = ((s.operC (z : Int) : Nat) : Int); unfold Cs.operC; rw [if_neg (by omega)]; rfl)) (ee := (by show _ = (s.oper (z : Int)).sum y (s.operV (z : Int)); unfold Cs.oper Cs.operV; rw [if_neg (by omega), if_neg (by omega)]))) (by simp [c1])
  ·exact onlyN hm (fun tq ix => (pl_sumbr q hq s hp y hy z hz ca c1 tq ix).fin (ec := (by show _ = ((s.operC (z : Int) : Nat) : Int); unfold Cs.operC; rw [if_neg (by omega)]; rfl)) (ee := (by show _ = (s.oper (z : Int)).sum y (s.operV (z : Int)); unfold Cs.oper Cs.operV; rw [if_neg (by omega), if_neg (by omega)]))) (by simp [c1])
 ·obtain rfl | rfl | rfl | rfl | rfl | rfl | rfl | rfl : z = 0 ∨ z = 1 ∨ z = 2 ∨ z = 3 ∨ z = 4 ∨ z = 5 ∨ z = 6 ∨ z = 7 := by omega
  ·exact onlyN hm (fun tq ix => (pl_retcc q hq s hp y hy tq ix).fin)
  ·obtain rfl | rfl | rfl | rfl | rfl | rfl | rfl | rfl : y = 0 ∨ y = 1 ∨ y = 2 ∨ y = 3 ∨ y = 4 ∨ y = 5 ∨ y = 6 ∨ y = 7 := by omega
   ·exact onlyN hm (fun tq ix => (pl_pop q hq s hp 0 (by decide) tq ix).fin)
   ·exact onlyN hm (fun tq ix => (pl_ret q hq s hp  tq ix).fin)
   ·exact onlyN hm (fun tq ix => (pl_pop q hq s hp 1 (by decide) tq ix).fin)
   ·exact onlyN hm (fun tq ix => (pl_exx q hq s hp  tq ix).fin)
   ·exact onlyN hm (fun tq ix => (pl_pop q hq s hp 2 (by decide) tq ix).fin)
   ·exact onlyN hm (fun tq ix => (pl_jphl q hq s hp  tq ix).fin)
   ·exact onlyN hm (fun tq ix => (pl_pop q hq s hp 3 (by decide) tq ix).fin)
   ·exact onlyN hm (fun tq ix => (pl_ldsp q hq s hp  tq ix).fin)
  ·exact onlyN hm (fun tq ix => (pl_jpcc q hq s hp y hy tq ix).fin)
  ·obtain rfl | rfl | rfl | rfl | rfl | rfl | rfl | rfl : y = 0 ∨ y = 1 ∨ y = 2 ∨ y = 3 ∨ y = 4 ∨ y = 5 ∨ y = 6 ∨ y = 7 := by omega
   ·exact onlyN hm (fun tq ix => (pl_jp q hq s hp  tq ix).fin)
   ·exfalso; omega
   ·exact onlyN hm (fun tq ix => (pl_outn q hq s hp  tq ix).fin)
   ·exact onlyN hm (fun tq ix => (pl_inn q hq s hp  tq ix).fin)
   ·exact onlyN hm (fun tq ix => (pl_exsp q hq s hp  tq ix).fin)
   ·exact onlyN hm (fun tq ix => (pl_exde q hq s hp  tq ix).fin)
   ·exact onlyN hm (fun tq ix => (pl_di q hq s hp hdl tq ix).fin)
   ·exact onlyN hm (fun tq ix => (pl_ei q hq s hp  tq ix).fin)
  ·exact onlyN hm (fun tq ix => (pl_callcc q hq s hp y hy tq ix).fin)
  ·obtain rfl | rfl | rfl | rfl | rfl | rfl | rfl | rfl : y = 0 ∨ y = 1 ∨ y = 2 ∨ y = 3 ∨ y = 4 ∨ y = 5 ∨ y = 6 ∨ y = 7 := by omega
   ·exact onlyN hm (fun tq ix => (pl_push q hq s hp 0 (by decide) tq ix).fin)
   ·exact onlyN hm (fun tq ix => (pl_call q hq s hp  tq ix).fin)
   ·exact onlyN hm (fun tq ix => (pl_push q hq s hp 1 (by decide) tq ix).fin)
   ·exfalso; omega
   ·exact onlyN hm (fun tq ix => (pl_push q hq s hp 2 (by decide) tq ix).fin)
   ·exfalso; omega
   ·exact onlyN hm (fun tq ix => (pl_push q hq s hp 3 (by decide) tq ix).fin)
   ·exfalso; omega
  ·by_cases ca : y = 0 ∨ y = 1 ∨ y = 3
   ·exact onlyN hm (fun tq ix => (pl_suman q hq s hp y hy ca tq ix).fin)
   ·exact onlyN hm (fun tq ix => (pl_sumbn q hq s hp y hy ca tq ix).fin)
  ·exact onlyN hm (fun tq ix => (pl_rst q hq s hp y hy tq ix).fin)
theorem rare_no : (∀ y, y < 8 → ∀ z, z < 8 → rareB (64 * 0 + 8 * y + z) = false) ∧ (∀ y, y < 8 → ∀ z, z < 8 → rareB (64 * 3 + 8 * y + z) = false) ∧ (∀ y, y < 8 → ∀ z, z < 8 → ¬ (4 ≤ y ∧ z < 4) → rareB (64 * 2 + 8 * y + z) = false) := by decide +kernel
theorem pe_all (s : Cs) (hp : s.px = 0) (x y z : Nat) (hx : x < 4) (hy : y < 8) (hz : z < 8) (tq : Nat) (ix : Bool) : RunDoes (rPat 2 (64 * x + 8 * y + z)) 2 s tq ix 4 ((s.rareC x y z : Nat) : Int) (s.rare x y z) := by
 obtain rfl | rfl | rfl | rfl : x = 0 ∨ x = 1 ∨ x = 2 ∨ x = 3 := by omega
 ·exact (pe_nop s _ (by omega) (rare_no.1 y hy z hz) tq ix).fin rfl
 ·obtain rfl | rfl | rfl | rfl | rfl | rfl | rfl | rfl : z = 0 ∨ z = 1 ∨ z = 2 ∨ z = 3 ∨ z = 4 ∨ z = 5 ∨ z = 6 ∨ z = 7 := by omega
  ·by_cases c0 : y = 6
   ·subst c0; exact (pe_ino s hp  tq ix).fin
   ·exact (pe_inr s hp y hy c0 tq ix).fin
  ·by_cases c0 : y = 6
   ·subst c0; exact (pe_outo s hp  tq ix).fin
   ·exact (pe_outr s hp y hy c0 tq ix).fin
  ·obtain rfl | rfl | rfl | rfl | rfl | rfl | rfl | rfl : y = 0 ∨ y = 1 ∨ y = 2 ∨ y = 3 ∨ y = 4 ∨ y = 5 ∨ y = 6 ∨ y = 7 := by omega
   ·exact (pe_sbc s hp 0 (by decide) tq ix).fin
   ·exact (pe_adc s hp 0 (by decide) tq ix).fin
   ·exact (pe_sbc s hp 1 (by decide) tq ix).fin
   ·exact (pe_adc s hp 1 (by decide) tq ix).fin
   ·exact (pe_sbc s hp 2 (by decide) tq ix).fin
   ·exact (pe_adc s hp 2 (by decide) tq ix).fin
   ·exact (pe_sbc s hp 3 (by decide) tq ix).fin
   ·exact (pe_adc s hp 3 (by decide) tq ix).fin
  ·obtain rfl | rfl | rfl | rfl | rfl | rfl | rfl | rfl : y = 0 ∨ y = 1 ∨ y = 2 ∨ y = 3 ∨ y = 4 ∨ y = 5 ∨ y = 6 ∨ y = 7 := by omega
   ·exact (pe_ldNp s hp 0 (by decide) tq ix).fin
   ·exact (pe_ldpN s hp 0 (by decide) tq ix).fin
   ·exact (pe_ldNp s hp 1 (by decide) tq ix).fin
   ·exact (pe_ldpN s hp 1 (by decide) tq ix).fin
   ·exact (pe_ldNp s hp 2 (by decide) tq ix).fin
   ·exact (pe_ldpN s hp 2 (by decide) tq ix).fin
   ·exact (pe_ldNp s hp 3 (by decide) tq ix).fin
   ·exact (pe_ldpN s hp 3 (by decide) tq ix).fin
  ·exact (pe_neg s hp y hy tq ix).fin
  ·by_cases c0 : y = 1
   ·subst c0; exact (pe_reti s hp  tq ix).fin
   ·exact (pe_retn s hp y hy c0 tq ix).fin
  ·exact (pe_im s hp y hy tq ix).fin
  ·obtain rfl | rfl | rfl | rfl | rfl | rfl | rfl | rfl : y = 0 ∨ y = 1 ∨ y = 2 ∨ y = 3 ∨ y = 4 ∨ y = 5 ∨ y = 6 ∨ y = 7 := by omega
   ·exact (pe_ldIa s hp  tq ix).fin
   ·exact (pe_ldRa s hp  tq ix).fin
   ·exact (pe_ldaI s hp  tq ix).fin
   ·exact (pe_ldaR s hp  tq ix).fin
   ·exact (pe_rrd s hp  tq ix).fin
   ·exact (pe_rld s hp  tq ix).fin
   ·exact (pe_nop s _ (by omega) (by decide) tq ix).fin rfl
   ·exact (pe_nop s _ (by omega) (by decide) tq ix).fin rfl
 ·by_cases cm : 4 ≤ y ∧ z < 4
  ·obtain ⟨cy, cz⟩ := cm
   obtain rfl | rfl | rfl | rfl : z = 0 ∨ z = 1 ∨ z = 2 ∨ z = 3 := by omega
   ·obtain rfl | rfl | rfl | rfl : y = 4 ∨ y = 5 ∨ y = 6 ∨ y = 7 := by omega
    ·exact (pe_ldi s hp  tq ix).fin
    ·exact (pe_ldd s hp  tq ix).fin
    ·exact (pe_ldir s hp  tq ix).fin
    ·exact (pe_lddr s hp  tq ix).fin
   ·obtain rfl | rfl | rfl | rfl : y = 4 ∨ y = 5 ∨ y = 6 ∨ y = 7 := by omega
    ·exact (pe_cpi s hp  tq ix).fin
    ·exact (pe_cpd s hp  tq ix).fin
    ·exact (pe_cpir s hp  tq ix).fin
    ·exact (pe_cpdr s hp  tq ix).fin
   ·obtain rfl | rfl | rfl | rfl : y = 4 ∨ y = 5 ∨ y = 6 ∨ y = 7 := by omega
    ·exact (pe_ini s hp  tq ix).fin
    ·exact (pe_ind s hp  tq ix).fin
    ·exact (pe_inir s hp  tq ix).fin
    ·exact (pe_indr s hp  tq ix).fin
   ·obtain rfl | rfl | rfl | rfl : y = 4 ∨ y = 5 ∨ y = 6 ∨ y = 7 := by omega
    ·exact (pe_outi s hp  tq ix).fin
    ·exact (pe_outd s hp  tq ix).fin
    ·exact (pe_otir s hp  tq ix).fin
    ·exact (pe_otdr s hp  tq ix).fin
  ·have e1 : s.rare 2 y z = s := by unfold Cs.rare; rw [if_neg (by decide), if_neg (fun h => cm h.2)]
   have e2 : s.rareC 2 y z = 8 := by unfold Cs.rareC; rw [if_neg (by decide), if_neg (fun h => cm h.2)]
   rw [e1, e2]
   exact (pe_nop s _ (by omega) (rare_no.2.2 y hy z hz cm) tq ix).fin rfl
 ·exact (pe_nop s _ (by omega) (rare_no.2.1 y hy z hz) tq ix).fin rfl
theorem cond_q (q a b : Nat) (hq : Q3 q) : cond (Nat.beq q 0).not (a : Int) (b : Int) = ((if q = 0 then b else a : Nat) : Int) := by rcases hq with rfl | rfl | rfl <;> rfl
theorem pb_all (q : Nat) (hq : Q3 q) (s : Cs) (tq : Nat) (ht : tq < 65536) (x y z : Nat) (hx : x < 4) (hy : y < 8) (hz : z < 8) (c0 : q = 0 → z = 6) : RunDoes (rPat (bpg q) (64 * x + 8 * y + z)) (bpg q) s tq (Nat.beq q 0).not 4 ((Cs.bitsC x (if q = 0 then 15 else 19) : Nat) : Int) (s.bitsAt x y z tq) := by
 obtain rfl | rfl | rfl | rfl : x = 0 ∨ x = 1 ∨ x = 2 ∨ x = 3 := by omega
 ·by_cases c1 : z = 6
  ·subst c1
   exact (pb_rot q hq s tq ht y hy).fin (by omega) (by decide) ((cond_q q 19 15 hq).trans rfl) rfl
  ·exact (pb_rot2 q hq s tq ht y hy z hz c1 (fun h => c1 (c0 h))).fin (by omega) (by decide) ((cond_q q 19 15 hq).trans rfl) rfl
 ·exact (pb_bit q hq s tq ht y hy z hz c0).fin (by omega) (by decide) ((cond_q q 16 12 hq).trans (by rcases hq with rfl | rfl | rfl <;> rfl)) rfl
 ·by_cases c1 : z = 6
  ·subst c1
   exact (pb_rs q hq s tq ht y hy false).fin (by show _ = 128 + 64 * 0 + 8 * y + 6; omega) (by decide) ((cond_q q 19 15 hq).trans rfl) rfl
  ·exact (pb_rs2 q hq s tq ht y hy false z hz c1 (fun h => c1 (c0 h))).fin (by show _ = 128 + 64 * 0 + 8 * y + z; omega) (by decide) ((cond_q q 19 15 hq).trans rfl) rfl
 ·by_cases c1 : z = 6
  ·subst c1
   exact (pb_rs q hq s tq ht y hy true).fin (by show _ = 128 + 64 * 1 + 8 * y + 6; omega) (by decide) ((cond_q q 19 15 hq).trans rfl) rfl
  ·exact (pb_rs2 q hq s tq ht y hy true z hz c1 (fun h => c1 (c0 h))).fin (by show _ = 128 + 64 * 1 + 8 * y + z; omega) (by decide) ((cond_q q 19 15 hq).trans rfl) rfl
theorem pr_all (s : Cs) (hp : s.px = 0) (tq : Nat) (ix : Bool) (x y z : Nat) (hx : x < 4) (hy : y < 8) (hz : z < 8) (c0 : ¬ z = 6) : RunDoes (rPat 1 (64 * x + 8 * y + z)) 1 s tq ix 4 ((8 : Nat) : Int) (s.bitsReg x y z) := by
 obtain ⟨r, px, u⟩ := s
 obtain rfl : px = 0 := hp
 obtain rfl | rfl | rfl | rfl : x = 0 ∨ x = 1 ∨ x = 2 ∨ x = 3 := by omega
 ·exact (pr_rot _ tq ix y hy z hz c0).fin
 ·exact (pr_bit _ tq ix y hy z hz c0).fin
 ·exact (pr_rs _ tq ix y hy false z hz c0).fin (by show _ = 128 + 64 * 0 + 8 * y + z; omega) (by decide) rfl rfl
 ·exact (pr_rs _ tq ix y hy true z hz c0).fin (by show _ = 128 + 64 * 1 + 8 * y + z; omega) (by decide) rfl rfl
theorem Fx.fewer {b n m : Nat} {u : U} (h : Hid (Fx W0 w b u l n)) (hm : m ≤ n) : Hid (Fx W0 w b u l m) := Lib.hid ⟨h.out.good.less hm, h.out.own⟩
theorem pat_len : ∀ g ∈ [(0 : Int), 1, 2, 3, 4, 5, 6], ∀ o, o < 256 → (rPat g o).length ≤ 24 := by decide +kernel
theorem has_0 : ∀ o, o < 256 → memB o = true → rHas (rPat 0 o) [40, 72, 76, 41] = true := by decide +kernel
theorem has_3 : ∀ o, o < 256 → rHas (rPat 3 o) [43, 100] = memB o ∧ (memB o = true → rHas (rPat 3 o) [40, 72, 76, 41] = false) := by decide +kernel
theorem has_4 : ∀ o, o < 256 → rHas (rPat 4 o) [43, 100] = memB o ∧ (memB o = true → rHas (rPat 4 o) [40, 72, 76, 41] = false) := by decide +kernel
theorem has_1 : ∀ o, o < 256 → o % 8 = 6 → rHas (rPat 1 o) [40, 72, 76, 41] = true := by decide +kernel
theorem has_5 : ∀ o, o < 256 → rHas (rPat 5 o) [40, 72, 76, 41] = false ∧ rHas (rPat 6 o) [40, 72, 76, 41] = false := by decide +kernel
theorem op_xyz (o : Nat) : 64 * Cs.xOf o + 8 * Cs.yOf o + Cs.zOf o = o := by unfold Cs.xOf Cs.yOf Cs.zOf; omega
theorem xyz_lt (o : Nat) (ho : o < 256) : Cs.xOf o < 4 ∧ Cs.yOf o < 8 ∧ Cs.zOf o < 8 := by unfold Cs.xOf Cs.yOf Cs.zOf; omega
theorem pair_hl (s : Cs) (hp : s.px = 0) : s.pair 2 = s.r.h * 256 + s.r.l := by
 obtain ⟨r, px, u⟩ := s
 obtain rfl : px = 0 := hp
 rfl
theorem point_0 (s : Cs) (hp : s.px = 0) : s.point = s ∧ s.pointV = s.r.h * 256 + s.r.l := by
 refine ⟨by unfold Cs.point; rw [if_pos hp], ?_⟩
 unfold Cs.pointV; rw [if_pos hp]; exact pair_hl s hp
theorem point_x (s : Cs) (hp : s.px = 221) : s.point = s.next.setWZ (wMove s.r.ix s.nextV) ∧ s.pointV = wMove s.r.ix s.nextV := by
 obtain ⟨r, px, u⟩ := s
 obtain rfl : px = 221 := hp
 exact ⟨rfl, rfl⟩
theorem point_y (s : Cs) (hp : s.px = 253) : s.point = s.next.setWZ (wMove s.r.iy s.nextV) ∧ s.pointV = wMove s.r.iy s.nextV := by
 obtain ⟨r, px, u⟩ := s
 obtain rfl : px = 253 := hp
 exact ⟨rfl, rfl⟩
section
variable {W0 w : World} {b n : Nat} {s : Cs} {l : Blocks} {o : Nat}
theorem rs_p0 (hh : s.r.ht = false) (ho : s.begun.nextV = o) (o8 : o < 256) (hr : s.r.Fits) (h : Hid (Fx W0 w b s.u l (n + 7))) (hpx : s.r.px = 0) (h1 : ¬ o = 221) (h2 : ¬ o = 253) (h3 : ¬ o = 237) (h4 : ¬ o = 203) : CX 10 #[s.r.v, .pointer (some ⟨b, 0, none⟩)] w (.tuple #[(s.begun.fetch.plain (Cs.xOf o) (Cs.yOf o) (Cs.zOf o)).r.v, .int .i64 ((s.begun.fetch.plainC (Cs.xOf o) (Cs.yOf o) (Cs.zOf o) : Nat) : Int)]) fun w' => Hid (Fx W0 w' b (s.begun.fetch.plain (Cs.xOf o) (Cs.yOf o) (Cs.zOf o)).u l n) := by
 have hP : s.begun.fetch.px = 0 := hpx
 have hx := xyz_lt o o8
 have A := pl_all 0 (by decide) s.begun.fetch hP rfl _ _ _ hx.1 hx.2.1 hx.2.2 (by rw [op_xyz]; exact h4) (by rw [op_xyz]; exact h1) (by rw [op_xyz]; exact h3) (by rw [op_xyz]; exact h2)
 rw [op_xyz] at A
 obtain ⟨A1, A2⟩ := A
 have lt := pat_len 0 (by decide) o o8
 cases hm : memB o
 ·exact rstep_p0 hh s.begun rfl o s.begun.fetch (Lib.hid ho) rfl hpx h1 h2 h3 h4 (rPat 0 o) rfl lt _ rfl _ rfl 4 _ _ (A1 hm _ _) hr (Fx.fewer h (by omega))
 ·have D := A2 hm
  obtain ⟨e1, e2⟩ := point_0 s.begun.fetch hP
  rw [e1, e2] at D
  exact rstep_p0 hh s.begun rfl o s.begun.fetch (Lib.hid ho) rfl hpx h1 h2 h3 h4 (rPat 0 o) rfl lt true (Lib.hid (has_0 o o8 hm)) _ rfl 4 _ _ D hr (Fx.fewer h (by omega))
theorem rs_p3 (hh : s.r.ht = false) (ho : s.begun.nextV = o) (o8 : o < 256) (hr : s.r.Fits) (h : Hid (Fx W0 w b s.u l (n + 7))) (hpx : s.r.px = 221) (h1 : ¬ o = 221) (h2 : ¬ o = 253) (h3 : ¬ o = 237) (h4 : ¬ o = 203) : CX 10 #[s.r.v, .pointer (some ⟨b, 0, none⟩)] w (.tuple #[(s.begun.fetch.plain (Cs.xOf o) (Cs.yOf o) (Cs.zOf o)).r.v, .int .i64 ((s.begun.fetch.plainC (Cs.xOf o) (Cs.yOf o) (Cs.zOf o) : Nat) : Int)]) fun w' => Hid (Fx W0 w' b (s.begun.fetch.plain (Cs.xOf o) (Cs.yOf o) (Cs.zOf o)).u l n) := by
 have hP : s.begun.fetch.px = 221 := hpx
 have hx := xyz_lt o o8
 have A := pl_all 221 (by decide) s.begun.fetch hP rfl _ _ _ hx.1 hx.2.1 hx.2.2 (by rw [op_xyz]; exact h4) (by rw [op_xyz]; exact h1) (by rw [op_xyz]; exact h3) (by rw [op_xyz]; exact h2)
 rw [op_xyz] at A
 obtain ⟨A1, A2⟩ := A
 have lt := pat_len 3 (by decide) o o8
 have hd := has_3 o o8
 cases hm : memB o
 ·exact rstep_p34n hh s.begun rfl o s.begun.fetch (Lib.hid ho) rfl 221 3 (by decide) hpx h1 h2 h3 h4 (Lib.hid (hd.1.trans hm)) (rPat 3 o) rfl lt _ rfl _ rfl 4 _ _ (A1 hm _ _) hr (Fx.fewer h (by omega))
 ·have D := A2 hm
  obtain ⟨e1, e2⟩ := point_x s.begun.fetch hP
  rw [e1, e2] at D
  exact rstep_p34d hh s.begun rfl o s.begun.fetch (Lib.hid ho) rfl 221 3 Rg.ix (by simp) hpx h1 h2 h3 h4 (Lib.hid (hd.1.trans hm)) _ _ _ rfl rfl rfl (rPat 3 o) rfl lt false (Lib.hid (hd.2 hm)) _ rfl 4 _ _ D hr (Fx.fewer h (by omega))
theorem rs_p4 (hh : s.r.ht = false) (ho : s.begun.nextV = o) (o8 : o < 256) (hr : s.r.Fits) (h : Hid (Fx W0 w b s.u l (n + 7))) (hpx : s.r.px = 253) (h1 : ¬ o = 221) (h2 : ¬ o = 253) (h3 : ¬ o = 237) (h4 : ¬ o = 203) : CX 10 #[s.r.v, .pointer (some ⟨b, 0, none⟩)] w (.tuple #[(s.begun.fetch.plain (Cs.xOf o) (Cs.yOf o) (Cs.zOf o)).r.v, .int .i64 ((s.begun.fetch.plainC (Cs.xOf o) (Cs.yOf o) (Cs.zOf o) : Nat) : Int)]) fun w' => Hid (Fx W0 w' b (s.begun.fetch.plain (Cs.xOf o) (Cs.yOf o) (Cs.zOf o)).u l n) := by
 have hP : s.begun.fetch.px = 253 := hpx
 have hx := xyz_lt o o8
 have A := pl_all 253 (by decide) s.begun.fetch hP rfl _ _ _ hx.1 hx.2.1 hx.2.2 (by rw [op_xyz]; exact h4) (by rw [op_xyz]; exact h1) (by rw [op_xyz]; exact h3) (by rw [op_xyz]; exact h2)
 rw [op_xyz] at A
 obtain ⟨A1, A2⟩ := A
 have lt := pat_len 4 (by decide) o o8
 have hd := has_4 o o8
 cases hm : memB o
 ·exact rstep_p34n hh s.begun rfl o s.begun.fetch (Lib.hid ho) rfl 253 4 (by decide) hpx h1 h2 h3 h4 (Lib.hid (hd.1.trans hm)) (rPat 4 o) rfl lt _ rfl _ rfl 4 _ _ (A1 hm _ _) hr (Fx.fewer h (by omega))
 ·have D := A2 hm
  obtain ⟨e1, e2⟩ := point_y s.begun.fetch hP
  rw [e1, e2] at D
  exact rstep_p34d hh s.begun rfl o s.begun.fetch (Lib.hid ho) rfl 253 4 Rg.iy (by simp) hpx h1 h2 h3 h4 (Lib.hid (hd.1.trans hm)) _ _ _ rfl rfl rfl (rPat 4 o) rfl lt false (Lib.hid (hd.2 hm)) _ rfl 4 _ _ D hr (Fx.fewer h (by omega))
theorem rs_ed (hh : s.r.ht = false) (ho : s.begun.nextV = o) (hr : s.r.Fits) (h : Hid (Fx W0 w b s.u l (n + 7))) (h4 : o = 237) : CX 10 #[s.r.v, .pointer (some ⟨b, 0, none⟩)] w (.tuple #[(((s.begun.fetch.ahead 0).fetch).rare (Cs.xOf s.begun.fetch.nextV) (Cs.yOf s.begun.fetch.nextV) (Cs.zOf s.begun.fetch.nextV)).r.v, .int .i64 ((((s.begun.fetch.ahead 0).fetch).rareC (Cs.xOf s.begun.fetch.nextV) (Cs.yOf s.begun.fetch.nextV) (Cs.zOf s.begun.fetch.nextV) : Nat) : Int)]) fun w' => Hid (Fx W0 w' b (((s.begun.fetch.ahead 0).fetch).rare (Cs.xOf s.begun.fetch.nextV) (Cs.yOf s.begun.fetch.nextV) (Cs.zOf s.begun.fetch.nextV)).u l n) := by
 obtain ⟨p, hp⟩ : ∃ p, s.begun.fetch.nextV = p := ⟨_, rfl⟩
 have p8 : p < 256 := by rw [← hp]; exact h.out.good.m8 _
 rw [hp]
 have hx := xyz_lt p p8
 have A := fun tq => pe_all ((s.begun.fetch.ahead 0).fetch) rfl _ _ _ hx.1 hx.2.1 hx.2.2 tq false
 rw [op_xyz] at A
 exact rstep_p2 hh s.begun rfl o s.begun.fetch (Lib.hid ho) rfl h4 p s.begun.fetch.fetch (Lib.hid hp) rfl (rPat 2 p) rfl (pat_len 2 (by decide) p p8) _ rfl _ rfl 4 _ _ (RunDoes.ahead (p := 0) (A _)) hr (Fx.fewer h (by omega))
theorem rs_cb (hh : s.r.ht = false) (ho : s.begun.nextV = o) (hr : s.r.Fits) (h : Hid (Fx W0 w b s.u l (n + 7))) (hq : Q3 s.r.px) (h4 : o = 203) : CX 10 #[s.r.v, .pointer (some ⟨b, 0, none⟩)] w (.tuple #[(s.begun.fetch.onBits).r.v, .int .i64 ((s.begun.fetch.onBitsC : Nat) : Int)]) fun w' => Hid (Fx W0 w' b (s.begun.fetch.onBits).u l n) := by
 rcases hq with hpx | hpx | hpx
 ·have hP : s.begun.fetch.px = 0 := hpx
  have hP2 : s.begun.fetch.fetch.px = 0 := hpx
  obtain ⟨p, hp⟩ : ∃ p, s.begun.fetch.nextV = p := ⟨_, rfl⟩
  have p8 : p < 256 := by rw [← hp]; exact h.out.good.m8 _
  have hx := xyz_lt p p8
  unfold Cs.onBits Cs.onBitsC
  rw [if_pos hP, if_pos hP, hp]
  by_cases hz : Cs.zOf p = 6
  ·rw [if_pos hz, if_pos hz, pair_hl _ hP2]
   have A := pb_all 0 (by decide) s.begun.fetch.fetch (s.begun.fetch.fetch.r.h * 256 + s.begun.fetch.fetch.r.l) (by rw [← pair_hl _ hP2]; exact Rg.pair_lt _ (fetch_fits (begun_fits hr |> fetch_fits)) _) _ _ _ hx.1 hx.2.1 hx.2.2 (fun _ => hz)
   rw [op_xyz] at A
   exact rstep_p1 hh s.begun rfl o s.begun.fetch (Lib.hid ho) rfl hpx h4 p s.begun.fetch.fetch (Lib.hid hp) rfl (rPat 1 p) rfl (pat_len 1 (by decide) p p8) true (Lib.hid (has_1 p p8 hz)) _ rfl 4 _ _ A hr (Fx.fewer h (by omega))
  ·rw [if_neg hz, if_neg hz]
   have A := fun tq => pr_all s.begun.fetch.fetch hP2 tq false _ _ _ hx.1 hx.2.1 hx.2.2 hz
   rw [op_xyz] at A
   exact rstep_p1 hh s.begun rfl o s.begun.fetch (Lib.hid ho) rfl hpx h4 p s.begun.fetch.fetch (Lib.hid hp) rfl (rPat 1 p) rfl (pat_len 1 (by decide) p p8) _ rfl _ rfl 4 _ _ (A _) hr (Fx.fewer h (by omega))
 ·have hP : s.begun.fetch.px = 221 := hpx
  obtain ⟨e1, e2⟩ := point_x s.begun.fetch hP
  unfold Cs.onBits Cs.onBitsC
  rw [if_neg (by rw [hP]; decide), if_neg (by rw [hP]; decide), e1, e2]
  obtain ⟨p, hp⟩ : ∃ p, (s.begun.fetch.next.setWZ (wMove s.begun.fetch.r.ix s.begun.fetch.nextV)).nextV = p := ⟨_, rfl⟩
  have p8 : p < 256 := by rw [← hp]; exact h.out.good.m8 _
  have hx := xyz_lt p p8
  rw [hp]
  have A := pb_all 221 (by decide) (s.begun.fetch.next.setWZ (wMove s.begun.fetch.r.ix s.begun.fetch.nextV)).next (wMove s.begun.fetch.r.ix s.begun.fetch.nextV) (wMove_lt _ _) _ _ _ hx.1 hx.2.1 hx.2.2 (fun h => absurd h (by decide))
  rw [op_xyz] at A
  exact rstep_p56 hh s.begun rfl o s.begun.fetch (Lib.hid ho) rfl 221 5 Rg.ix (by simp) hpx h4 _ _ _ rfl rfl rfl p _ (Lib.hid hp) rfl (rPat 5 p) rfl (pat_len 5 (by decide) p p8) false (Lib.hid (has_5 p p8).1) _ rfl 4 _ _ A hr (Fx.fewer h (by omega))
 ·have hP : s.begun.fetch.px = 253 := hpx
  obtain ⟨e1, e2⟩ := point_y s.begun.fetch hP
  unfold Cs.onBits Cs.onBitsC
  rw [if_neg (by rw [hP]; decide), if_neg (by rw [hP]; decide), e1, e2]
  obtain ⟨p, hp⟩ : ∃ p, (s.begun.fetch.next.setWZ (wMove s.begun.fetch.r.iy s.begun.fetch.nextV)).nextV = p := ⟨_, rfl⟩
  have p8 : p < 256 := by rw [← hp]; exact h.out.good.m8 _
  have hx := xyz_lt p p8
  rw [hp]
  have A := pb_all 253 (by decide) (s.begun.fetch.next.setWZ (wMove s.begun.fetch.r.iy s.begun.fetch.nextV)).next (wMove s.begun.fetch.r.iy s.begun.fetch.nextV) (wMove_lt _ _) _ _ _ hx.1 hx.2.1 hx.2.2 (fun h => absurd h (by decide))
  rw [op_xyz] at A
  exact rstep_p56 hh s.begun rfl o s.begun.fetch (Lib.hid ho) rfl 253 6 Rg.iy (by simp) hpx h4 _ _ _ rfl rfl rfl p _ (Lib.hid hp) rfl (rPat 6 p) rfl (pat_len 6 (by decide) p p8) false (Lib.hid (has_5 p p8).2) _ rfl 4 _ _ A hr (Fx.fewer h (by omega))
theorem rstep_at (hq : Q3 s.r.px) (hr : s.r.Fits) (h : Hid (Fx W0 w b s.u l (n + 7))) : CX 10 #[s.r.v, .pointer (some ⟨b, 0, none⟩)] w (.tuple #[(s.step).r.v, .int .i64 ((s.stepC : Nat) : Int)]) fun w' => Hid (Fx W0 w' b (s.step).u l n) := by
 cases hh : s.r.ht
 ·obtain ⟨o, ho⟩ : ∃ o, s.begun.nextV = o := ⟨_, rfl⟩
  have o8 : o < 256 := by rw [← ho]; exact h.out.good.m8 _
  have e1 : s.step = s.begun.fetch.perform o := by unfold Cs.step; rw [hh, ho]; rfl
  have e2 : s.stepC = s.begun.fetch.performC o := by unfold Cs.stepC; rw [hh, ho]; rfl
  rw [e1, e2]
  unfold Cs.perform Cs.performC
  by_cases h1 : o = 221
  ·rw [if_pos h1, if_pos h1]
   exact rstep_px hh s.begun rfl o s.begun.fetch (Lib.hid ho) rfl (.inl h1) hr (Fx.fewer h (by omega))
  rw [if_neg h1, if_neg h1]
  by_cases h2 : o = 253
  ·rw [if_pos h2, if_pos h2]
   exact rstep_px hh s.begun rfl o s.begun.fetch (Lib.hid ho) rfl (.inr h2) hr (Fx.fewer h (by omega))
  rw [if_neg h2, if_neg h2]
  by_cases h3 : o = 237
  ·rw [if_pos h3, if_pos h3]
   exact rs_ed hh ho hr h h3
  rw [if_neg h3, if_neg h3]
  by_cases h4 : o = 203
  ·rw [if_pos h4, if_pos h4]
   exact rs_cb hh ho hr h hq h4
  rw [if_neg h4, if_neg h4]
  rcases hq with hpx | hpx | hpx
  ·exact rs_p0 hh ho o8 hr h hpx h1 h2 h3 h4
  ·exact rs_p3 hh ho o8 hr h hpx h1 h2 h3 h4
  ·exact rs_p4 hh ho o8 hr h hpx h1 h2 h3 h4
 ·have e1 : s.step = s.tick := by unfold Cs.step; rw [hh]; rfl
  have e2 : s.stepC = 4 := by unfold Cs.stepC; rw [hh]; rfl
  rw [e1, e2]
  exact rstep_ht hh hr (Fx.fewer h (by omega))
end
theorem k69 {P : Prop} (h : P := by
 have HM := Lib.hid (Own.start w)
 go_enter Tryz.func6, Tryz.ntmps6
 go_upto_region 1 with (first | (refine a0 ?_; clear HM; intro w' g' HM))
 exact k1) : P := h
theorem rrightRegs (r : Rg) (b : Bool) (hb : Hid (r.right = b)) (w : World) : CB 6 #[r.v] w (.bool b) := by
 by_cases h0 : (r.im : Int) < 3
 ·have h0' : r.im ≤ 2 := by omega
  rcases (show r.px = 0 ∨ r.px = 221 ∨ r.px = 253 ∨ (¬ r.px = 0 ∧ ¬ r.px = 221 ∧ ¬ r.px = 253) by omega) with h1 | h1 | h1 | ⟨h1, h2, h3⟩
  ·have e : b = true := by rw [← hb.out]; simp [Rg.right, h0', h1]
   clear hb h0'
   obtain ⟨a, f, b, c, d, e1, h, l, x0, x1, x2, x3, x4, x5, x6, x7, ix, iy, sp, pc, wz, i, r, im, px, q1, q2, ht, dl⟩ := r
   simp only at h1 h0
   subst e h1
   exact k69
  ·have e : b = true := by rw [← hb.out]; simp [Rg.right, h0', h1]
   have h4 : ((r.px : Int) == 0) = false := by rw [h1]; rfl
   have h5 : ((r.px : Int) == 221) = true := by rw [h1]; rfl
   subst e
   exact k69
  ·have e : b = true := by rw [← hb.out]; simp [Rg.right, h0', h1]
   have h4 : ((r.px : Int) == 0) = false := by rw [h1]; rfl
   have h5 : ((r.px : Int) == 221) = false := by rw [h1]; rfl
   have h6 : ((r.px : Int) == 253) = true := by rw [h1]; rfl
   subst e
   exact k69
  ·have e : b = false := by rw [← hb.out]; simp [Rg.right, h1, h2, h3]
   have h4 : ((r.px : Int) == 0) = false := by simp; omega
   have h5 : ((r.px : Int) == 221) = false := by simp; omega
   have h6 : ((r.px : Int) == 253) = false := by simp; omega
   subst e
   exact k69
 ·have e : b = false := by rw [← hb.out]; simp [Rg.right]; omega
  subst e
  exact k69
section
variable {P : Program} {W0 w : World} {l l' : List (Nat × TypeId × List Value)} {ops : Array Oper} {o : Oper} {a : Act} {Q : Exit → Act → World → Prop} {K : Act → World → Prop} {S : World → Prop} {v : Value}
theorem wpOp_of {i : Nat} (hi : ops[i]? = some o) (hw : Region.wanted o (yielded ops a.tmps) = true) (h : o.wp P a w K Q) : wpOp P ops Q i K a w := by
 unfold wpOp; simp only [hi, hw, if_true]; exact .inl h
theorem y_pure (hw : Region.wanted o (yielded ops a.tmps) = true) (h : ∀ w, (execOp a.eval o).run P w = .ok (.value v) w) : YieldsIf P ops S o v a := .inl ⟨hw, fun w _ => h w⟩
theorem w_call {f : FuncId} {args args' : Array Value} (hx : ∀ w, (execOp a.eval o).run P w = .ok (.enter f args') w) (ha : args' = args) (hc : Calls P f args w fun e w' => ∃ u, e = .returned u ∧ K (a.put o.dst u) w') : o.wp P a w K Q := by
 subst ha
 unfold Oper.wp
 rw [hx w, Oper.upon_enter]
 exact hc.mono fun e w' ⟨u, he, hk⟩ => by subst he; exact hk
theorem h_take {md : Region.Mode} {i d : Nat} {oi : Oper} {fuel : Nat} {listed : Array Bool} (hi : ops[i]? = some oi) (hd : oi.dst = some d)
  (hs : Region.noSelect ops = true) (hf : Region.free md ops listed i = true) (hr : (Region.ready md ops listed).contains i = true)
  (hQ : ∀ c a w, Q (.panic c) (a.put (some d) v) w → Q (.panic c) a w) (hy : YieldsIf P ops S oi v a) (hS : S w)
  (h : wpAnyH P md ops Q S fuel (listed.setIfInBounds i true) (a.put (some d) v) w) : wpAnyH P md ops Q S (fuel + 1) listed a w :=
 wpAnyH_take hi hs hf hr (by rw [hd]; exact hQ) hy hS (by rw [hd]; exact h)
end
end
end Go.Proofs.YtgdeeiimkhjfiaaGreatDoor
