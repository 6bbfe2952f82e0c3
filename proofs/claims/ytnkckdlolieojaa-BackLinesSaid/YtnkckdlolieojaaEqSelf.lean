/-
  Arrays and structs held against themselves, however long they are: equal. Nothing here speaks of the program.
-/
import Derived.Laws.StructEq
import Derived.ChangeKeysEq
import Derived.ProofKit
namespace Go.Proofs.Ytnkckdlolieojaa
open Go.RowKit

section
variable {P : Program}
/-- one value held against itself -/
def SelfEq (P : Program) (d : Nat) (e : TypeId) (v : Value) : Prop := ∀ w, (Op.equalIn d e v v).run P w = .ok true w
theorem self_u8 {e : TypeId} (d : Nat) (h : P.underlying e = some (.int .u8)) (a : Int) : SelfEq P (d + 1) e (.int .u8 a) := fun w => by
  rw [run_equalIn_int w d e .u8 .u8 a a h]; simp
theorem self_bool {e : TypeId} (d : Nat) (h : P.underlying e = some .bool) (a : Bool) : SelfEq P (d + 1) e (.bool a) := fun w => by
  rw [run_equalIn_bool' w d e a a h]; simp
theorem self_array {t e : TypeId} {len d : Nat} {i0 : TypeInfo} (xs : Array Value) (ht : P.underlying t = some (.array len e)) (he : P.plainKey e = true) (hi : P.info? e = some i0) (hc : P.cellsOf e = 1)
    (hx : ∀ i, i < len → ∃ v, xs[i]? = some v ∧ SelfEq P d e v) : SelfEq P (d + 1) t (.agg xs) := fun w => by
  unfold Op.equalIn
  simp only [Sem.run_bind, run_underlying ht, Result.andThen_ok, run_sizeOf w hi, hc, Nat.mul_one, Std.Legacy.Range.forIn_eq_forIn_range', Std.Legacy.Range.size, Nat.sub_zero, Nat.add_one_sub_one, Nat.div_one]
  have main : ∀ (k s : Nat), s + k ≤ len → ((forIn (List.range' s k) ((none : Option Bool), ()) fun i _ => do
      let a ← part e xs i
      let b ← part e xs i
      let r ← Op.equalIn d e a b
      if (!r) = true then pure (ForInStep.done (some false, ())) else pure (ForInStep.yield (none, ())) : Sem (Option Bool × Unit))).run P w = .ok (none, ()) w := by
    intro k
    induction k with
    | zero => intro s _; simp
    | succ k ih =>
      intro s hs
      obtain ⟨v, hv, hq⟩ := hx s (by omega)
      rw [List.range'_succ, List.forIn_cons]
      simp only [Sem.run_bind, run_part_plain w he hv, Result.andThen_ok, hq w, Bool.not_true, Bool.false_eq_true, if_false, Sem.run_pure]
      exact ih (s + 1) (by omega)
  have m := main len 0 (by omega)
  have e1 : (len + 0) / 1 = len := by omega
  first
    | (rw [m]; rfl)
    | (simp only [Nat.add_zero, Nat.div_one] at m ⊢; rw [m]; rfl)
/-- fields -/
theorem self_fields {d : Nat} (xs : Array Value) : ∀ (fs : List Field), (∀ f ∈ fs, ∃ v, (∀ w, (part f.type xs f.offset).run P w = .ok v w) ∧ SelfEq P d f.type v) → ∀ w, (Op.eqFields d xs xs fs).run P w = .ok true w
  | [], _, w => by simp [Op.eqFields]
  | f :: fs, h, w => by
    obtain ⟨v, hv, hq⟩ := h f (by simp)
    have ih := self_fields xs fs (fun g hg => h g (by simp [hg])) w
    unfold Op.eqFields
    split
    · simp only [Sem.run_bind, hv w, Result.andThen_ok, hq w, Bool.not_true, Bool.false_eq_true, if_false]
      exact ih
    · exact ih
theorem self_struct {t : TypeId} {d : Nat} (xs : Array Value) (ht : P.underlying t = some (.struct (P.fieldsOf t))) (hp : P.stoodInHeld t = false)
    (h : ∀ f ∈ (P.fieldsOf t).toList, ∃ v, (∀ w, (part f.type xs f.offset).run P w = .ok v w) ∧ SelfEq P d f.type v) : SelfEq P (d + 1) t (.agg xs) := fun w => by
  rw [run_equalIn_struct w d t xs xs ht hp]
  exact self_fields xs _ h w
/-- a part that is an aggregate itself -/
theorem part_array {t e : TypeId} {len : Nat} {i0 : TypeInfo} (xs : Array Value) (off n : Nat) (ht : P.underlying t = some (.array len e)) (hi : P.info? t = some i0) (hc : P.cellsOf t = n) (w : World) : (part t xs off).run P w = .ok (.agg (xs.extract off (off + n))) w := by
  simp [part, isAgg, run_underlying ht, run_sizeOf w hi, hc]
end

end Go.Proofs.Ytnkckdlolieojaa
