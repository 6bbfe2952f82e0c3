/-
  A byte of a text, and a piece of it, as lists: two operations of a walk. Nothing here speaks of the program.
-/
import Derived.Test.YtaiceidmcelapaaDoorCat
import Derived.Laws.BytesArg
namespace Go.Proofs.YtaiceidmcelapaaDoor
open Go.RowKit

section
variable {P : Program} {W0 w : World} {ops : Array Oper} {rest : List Oper} {o : Oper} {a : Act}
theorem run_char {t : TypeId} (ht : P.underlying t = some .string) (s : List UInt8) (k : Nat) (kd : IntKind) (hk : k < s.length) (w : World) : (Instr.index t (.string ⟨s.toArray⟩) (.int kd (k : Int))).run P w = .ok (.int .u8 ((s.getD k 0).toNat : Int)) w := by
  have hs : (⟨s.toArray⟩ : ByteArray).size = s.length := by simp [ByteArray.size]
  have h2 : k < (⟨s.toArray⟩ : ByteArray).size := by rw [hs]; exact hk
  have e : (⟨s.toArray⟩ : ByteArray)[k]'h2 = s.getD k 0 := by
    rw [List.getD_eq_getElem?_getD, List.getElem?_eq_getElem hk]
    show s.toArray[k] = s[k]
    simp
  rw [run_index_string _ t ⟨s.toArray⟩ kd (k : Int) ht, dif_pos ⟨by omega, by rw [hs]; omega⟩]
  simp only [Int.toNat_natCast, e]
theorem run_piece {t : TypeId} (ht : P.underlying t = some .string) (s : List UInt8) (i j : Nat) (k1 k2 : IntKind) (hi : i ≤ j) (hj : j ≤ s.length) (w : World) : (Instr.sliceAt t (.string ⟨s.toArray⟩) (some (.int k1 (i : Int))) (some (.int k2 (j : Int))) none).run P w = .ok (.string ⟨((s.drop i).take (j - i)).toArray⟩) w := by
  have hs : (⟨s.toArray⟩ : ByteArray).size = s.length := by simp [ByteArray.size]
  have e : (⟨s.toArray⟩ : ByteArray).extract i j = ⟨((s.drop i).take (j - i)).toArray⟩ := by
    apply ByteArray.ext
    simp [List.extract_eq_take_drop]
  rw [run_sliceAt_string _ t _ _ _ _ ht, run_slice_string _ t _ k1 k2 (i : Int) (j : Int) ht (by omega) (by omega) (by rw [hs]; omega)]
  simp only [Int.toNat_natCast, e]
theorem own_char {Q : Exit → Act → World → Prop} {t : TypeId} (ht : P.underlying t = some .string) {x y : Operand} {s : List UInt8} {k : Nat} {kd : IntKind} (ho : o.op = .index t x y) (hx : a.eval x = .string ⟨s.toArray⟩) (hy : a.eval y = .int kd (k : Int)) (hk : k < s.length)
    (hw : Region.wanted o (yielded ops a.tmps) = true) (h : wpList P ops Q rest (a.put o.dst (.int .u8 ((s.getD k 0).toNat : Int))) w) : wpList P ops Q (o :: rest) a w := by
  refine wpList_wanted hw fun K hK => ?_
  unfold Oper.wp execOp
  simp only [ho, hx, hy, Sem.run_bind, run_char ht s k kd hk, Sem.run_pure, Result.andThen_ok]
  exact hK _ _ h
theorem own_piece {Q : Exit → Act → World → Prop} {t : TypeId} (ht : P.underlying t = some .string) {x y z : Operand} {s r : List UInt8} {i j : Nat} {k1 k2 : IntKind} (ho : o.op = .slice t x (some y) (some z) none) (hx : a.eval x = .string ⟨s.toArray⟩) {I J : Int} (hy : a.eval y = .int k1 I) (hz : a.eval z = .int k2 J) (hI : I = (i : Int)) (hJ : J = (j : Int)) (hi : i ≤ j) (hj : j ≤ s.length)
    (hr : (s.drop i).take (j - i) = r) (hw : Region.wanted o (yielded ops a.tmps) = true) (h : wpList P ops Q rest (a.put o.dst (.string ⟨r.toArray⟩)) w) : wpList P ops Q (o :: rest) a w := by
  subst hr hI hJ
  refine wpList_wanted hw fun K hK => ?_
  unfold Oper.wp execOp
  simp only [ho, hx, hy, hz, Option.map_some, Option.map_none, Sem.run_bind, run_piece ht s i j k1 k2 hi hj, Sem.run_pure, Result.andThen_ok]
  exact hK _ _ h
theorem quiet_piece {C : World → Prop} {K : Act → Prop} {dst : Option Tmp} {t ty0 : TypeId} {pos : String} {aft : Array Edge} {gd : Option (Nat × Bool)} (ht : P.underlying t = some .string) {x y z : Operand} {s r : List UInt8} {i j : Nat} {k1 k2 : IntKind} (hx : a.eval x = .string ⟨s.toArray⟩) {I J : Int} (hy : a.eval y = .int k1 I) (hz : a.eval z = .int k2 J) (hI : I = (i : Int)) (hJ : J = (j : Int)) (hi : i ≤ j) (hj : j ≤ s.length)
    (hr : (s.drop i).take (j - i) = r) (h : Oper.quiet P ⟨dst, .move (.const (.string ⟨r.toArray⟩)), ty0, pos, aft, gd⟩ a C K) : Oper.quiet P ⟨dst, .slice t x (some y) (some z) none, ty0, pos, aft, gd⟩ a C K := by
  subst hr hI hJ
  refine quiet_as (fun w _ => ?_) h
  unfold execOp
  simp only [hx, hy, hz, Option.map_some, Option.map_none, Sem.run_bind, run_piece ht s i j k1 k2 hi hj, Sem.run_pure, Result.andThen_ok]
end

end Go.Proofs.YtaiceidmcelapaaDoor
