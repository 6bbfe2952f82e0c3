/-
  Events that came in, by their five cells.
-/
import Derived.Test.YtoinngodknffeaaEvKinds
import Derived.ProofKit
import Derived.OpenShut
import Derived.ChangeOld
import Derived.Below
import Derived.Lib.SmallJoins
import Derived.ChangeArms
namespace Go.Proofs.Ytoinngodknffeaa
open Go.ChangeShapes Go.WideShapes Go.ChangeAt Go.RowKit Go.Joins

theorem kBool : Try.prog.cellsOf 4 = 1 := by kernel_rfl
theorem kU8 : Try.prog.cellsOf 5 = 1 := by kernel_rfl
theorem kE : Try.prog.cellsOf 23 = 5 := by kernel_rfl
theorem events_in {H : Type} {enc : TypeId × Value → H} {W : World} {b0 : Nat} {v : Value} {d : DataW H} {q : List MemPlace} (hv : Value.okWide Try.prog W .any b0 23 v) (h : DataW.Trod enc Try.prog W 0 (fun _ => true) true 23 v d q) :
    ∃ n L F O C, v = .agg #[.int .u8 n, .bool L, .bool F, .bool O, .bool C] ∧ 0 ≤ n ∧ n < 256 := by
  obtain ⟨cs, rfl, hsz⟩ := okWide_struct Try.underlying23 hv
  rw [kE] at hsz
  obtain ⟨l⟩ := cs
  match l, hsz with
  | [c0, c1, c2, c3, c4], _ =>
    obtain ⟨fuel, hf⟩ := h
    obtain ⟨xs, n, _, -, -, hlen, hx⟩ := DataW.trod_struct Try.underlying23 hf
    match xs, hlen with
    | [y0, y1, y2, y3, y4], _ =>
      have h0 := hx 0 _ rfl
      have h1 := hx 1 _ rfl
      have h2 := hx 2 _ rfl
      have h3 := hx 3 _ rfl
      have h4 := hx 4 _ rfl
      simp [kU8, kBool, Value.cells] at h0 h1 h2 h3 h4
      obtain ⟨m, e0, -, wm⟩ := DataW.trod_int Try.underlying5 h0
      obtain ⟨L, e1, -⟩ := DataW.trod_bool Try.underlying4 h1
      obtain ⟨F, e2, -⟩ := DataW.trod_bool Try.underlying4 h2
      obtain ⟨O, e3, -⟩ := DataW.trod_bool Try.underlying4 h3
      obtain ⟨C, e4, -⟩ := DataW.trod_bool Try.underlying4 h4
      simp only [List.cons.injEq, and_true] at e0 e1 e2 e3 e4
      subst e0 e1 e2 e3 e4
      have bm := bounds_u8 wm
      exact ⟨m, L, F, O, C, rfl, by omega, by omega⟩

end Go.Proofs.Ytoinngodknffeaa
