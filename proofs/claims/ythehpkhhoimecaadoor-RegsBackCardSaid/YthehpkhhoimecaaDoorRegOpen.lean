/-
  Registers that came in, by their twenty-nine cells.
-/
import Derived.Test.YthehpkhhoimecaaDoorRegKinds
import Derived.ProofKit
import Derived.OpenShut
import Derived.ChangeOld
import Derived.Below
import Derived.ChangeArms
namespace Go.Proofs.YthehpkhhoimecaaDoor
open Go.ChangeShapes Go.WideShapes Go.ChangeAt Go.RowKit

section
variable {H : Type} {enc : TypeId × Value → H} {W : World} {fuel : Nat} {y : DataW H × List MemPlace}
theorem kU8 : Tryd.prog.cellsOf 5 = 1 := by kernel_rfl
theorem kU16 : Tryd.prog.cellsOf 23 = 1 := by kernel_rfl
theorem kBool : Tryd.prog.cellsOf 4 = 1 := by kernel_rfl
theorem kAlt : Tryd.prog.cellsOf 22 = 8 := by kernel_rfl
theorem kRegs : Tryd.prog.cellsOf 25 = 29 := by kernel_rfl
theorem bool_open {c : Value} (h : DataW.trod enc Tryd.prog W 0 (fun _ => true) true fuel 4 [c] = some y) : ∃ n, c = .bool n := by
  obtain ⟨a, e, -⟩ := DataW.trod_bool Tryd.underlying4 h
  simp at e; exact ⟨a, e⟩
theorem u8_open {c : Value} (h : DataW.trod enc Tryd.prog W 0 (fun _ => true) true fuel 5 [c] = some y) : ∃ n : Nat, c = .int .u8 (n : Int) ∧ n < 256 := by
  obtain ⟨a, e, -, w⟩ := DataW.trod_int Tryd.underlying5 h
  simp at e
  have := bounds_u8 w
  obtain ⟨n, rfl⟩ := Int.eq_ofNat_of_zero_le this.1
  exact ⟨n, e, by omega⟩
theorem u16_open {c : Value} (h : DataW.trod enc Tryd.prog W 0 (fun _ => true) true fuel 23 [c] = some y) : ∃ n : Nat, c = .int .u16 (n : Int) ∧ n < 65536 := by
  obtain ⟨a, e, -, w⟩ := DataW.trod_int Tryd.underlying23 h
  simp at e
  have := bounds_u16 w
  obtain ⟨n, rfl⟩ := Int.eq_ofNat_of_zero_le this.1
  exact ⟨n, e, by omega⟩
theorem alt_open {a0 a1 a2 a3 a4 a5 a6 a7 : Value} (h : DataW.trod enc Tryd.prog W 0 (fun _ => true) true fuel 22 [a0, a1, a2, a3, a4, a5, a6, a7] = some y) :
    ∃ n0 n1 n2 n3 n4 n5 n6 n7 : Nat, (a0 = .int .u8 (n0 : Int) ∧ a1 = .int .u8 (n1 : Int) ∧ a2 = .int .u8 (n2 : Int) ∧ a3 = .int .u8 (n3 : Int) ∧ a4 = .int .u8 (n4 : Int) ∧ a5 = .int .u8 (n5 : Int) ∧ a6 = .int .u8 (n6 : Int) ∧ a7 = .int .u8 (n7 : Int)) ∧ n0 < 256 ∧ n1 < 256 ∧ n2 < 256 ∧ n3 < 256 ∧ n4 < 256 ∧ n5 < 256 ∧ n6 < 256 ∧ n7 < 256 := by
  obtain ⟨xs, m, rfl, -, hlen, hn, hel⟩ := DataW.trod_array Tryd.underlying22 h
  match xs, hn, hel with
  | [x0, x1, x2, x3, x4, x5, x6, x7], _, hel =>
    have h0 := hel 0 (by decide)
    have h1 := hel 1 (by decide)
    have h2 := hel 2 (by decide)
    have h3 := hel 3 (by decide)
    have h4 := hel 4 (by decide)
    have h5 := hel 5 (by decide)
    have h6 := hel 6 (by decide)
    have h7 := hel 7 (by decide)
    simp [kU8] at h0 h1 h2 h3 h4 h5 h6 h7
    obtain ⟨n0, rfl, b0⟩ := u8_open h0
    obtain ⟨n1, rfl, b1⟩ := u8_open h1
    obtain ⟨n2, rfl, b2⟩ := u8_open h2
    obtain ⟨n3, rfl, b3⟩ := u8_open h3
    obtain ⟨n4, rfl, b4⟩ := u8_open h4
    obtain ⟨n5, rfl, b5⟩ := u8_open h5
    obtain ⟨n6, rfl, b6⟩ := u8_open h6
    obtain ⟨n7, rfl, b7⟩ := u8_open h7
    exact ⟨n0, n1, n2, n3, n4, n5, n6, n7, ⟨rfl, rfl, rfl, rfl, rfl, rfl, rfl, rfl⟩, b0, b1, b2, b3, b4, b5, b6, b7⟩
set_option maxRecDepth 100000 in
theorem regs_cells {cs : List Value} (h : DataW.trod enc Tryd.prog W 0 (fun _ => true) true fuel 25 cs = some y) : ∃ r : Rg, cs = r.cells ∧ r.Fits := by
  obtain ⟨xs, n, -, -, hl, hxs, hf⟩ := DataW.trod_struct Tryd.underlying25 h
  rw [kRegs] at hl
  match cs, hl, xs, hxs with
  | [c0, c1, c2, c3, c4, c5, c6, c7, c8, c9, c10, c11, c12, c13, c14, c15, c16, c17, c18, c19, c20, c21, c22, c23, c24, c25, c26, c27, c28], _, [y0, y1, y2, y3, y4, y5, y6, y7, y8, y9, y10, y11, y12, y13, y14, y15, y16, y17, y18, y19, y20, y21], _ =>
    have h0 := hf 0 _ rfl
    simp [kU8] at h0
    have h1 := hf 1 _ rfl
    simp [kU8] at h1
    have h2 := hf 2 _ rfl
    simp [kU8] at h2
    have h3 := hf 3 _ rfl
    simp [kU8] at h3
    have h4 := hf 4 _ rfl
    simp [kU8] at h4
    have h5 := hf 5 _ rfl
    simp [kU8] at h5
    have h6 := hf 6 _ rfl
    simp [kU8] at h6
    have h7 := hf 7 _ rfl
    simp [kU8] at h7
    have h8 := hf 8 _ rfl
    simp [kAlt] at h8
    have h9 := hf 9 _ rfl
    simp [kU16] at h9
    have h10 := hf 10 _ rfl
    simp [kU16] at h10
    have h11 := hf 11 _ rfl
    simp [kU16] at h11
    have h12 := hf 12 _ rfl
    simp [kU16] at h12
    have h13 := hf 13 _ rfl
    simp [kU16] at h13
    have h14 := hf 14 _ rfl
    simp [kU8] at h14
    have h15 := hf 15 _ rfl
    simp [kU8] at h15
    have h16 := hf 16 _ rfl
    simp [kU8] at h16
    have h17 := hf 17 _ rfl
    simp [kU8] at h17
    have h18 := hf 18 _ rfl
    simp [kBool] at h18
    have h19 := hf 19 _ rfl
    simp [kBool] at h19
    have h20 := hf 20 _ rfl
    simp [kBool] at h20
    have h21 := hf 21 _ rfl
    simp [kBool] at h21
    clear hf
    obtain ⟨n0, rfl, b0⟩ := u8_open h0
    obtain ⟨n1, rfl, b1⟩ := u8_open h1
    obtain ⟨n2, rfl, b2⟩ := u8_open h2
    obtain ⟨n3, rfl, b3⟩ := u8_open h3
    obtain ⟨n4, rfl, b4⟩ := u8_open h4
    obtain ⟨n5, rfl, b5⟩ := u8_open h5
    obtain ⟨n6, rfl, b6⟩ := u8_open h6
    obtain ⟨n7, rfl, b7⟩ := u8_open h7
    obtain ⟨n8, n9, n10, n11, n12, n13, n14, n15, ⟨rfl, rfl, rfl, rfl, rfl, rfl, rfl, rfl⟩, b8, b9, b10, b11, b12, b13, b14, b15⟩ := alt_open h8
    obtain ⟨n16, rfl, b16⟩ := u16_open h9
    obtain ⟨n17, rfl, b17⟩ := u16_open h10
    obtain ⟨n18, rfl, b18⟩ := u16_open h11
    obtain ⟨n19, rfl, b19⟩ := u16_open h12
    obtain ⟨n20, rfl, b20⟩ := u16_open h13
    obtain ⟨n21, rfl, b21⟩ := u8_open h14
    obtain ⟨n22, rfl, b22⟩ := u8_open h15
    obtain ⟨n23, rfl, b23⟩ := u8_open h16
    obtain ⟨n24, rfl, b24⟩ := u8_open h17
    obtain ⟨n25, rfl⟩ := bool_open h18
    obtain ⟨n26, rfl⟩ := bool_open h19
    obtain ⟨n27, rfl⟩ := bool_open h20
    obtain ⟨n28, rfl⟩ := bool_open h21
    exact ⟨⟨n0, n1, n2, n3, n4, n5, n6, n7, n8, n9, n10, n11, n12, n13, n14, n15, n16, n17, n18, n19, n20, n21, n22, n23, n24, n25, n26, n27, n28⟩, rfl, ⟨b0, b1, b2, b3, b4, b5, b6, b7, b8, b9, b10, b11, b12, b13, b14, b15, b16, b17, b18, b19, b20, b21, b22, b23, b24⟩⟩
end

theorem regs_in {H : Type} {enc : TypeId × Value → H} {W : World} {b0 : Nat} {v : Value} {d : DataW H} {q : List MemPlace} (hv : Value.okWide Tryd.prog W .any b0 25 v) (h : DataW.Trod enc Tryd.prog W 0 (fun _ => true) true 25 v d q) :
    ∃ r : Rg, v = r.v ∧ r.Fits := by
  obtain ⟨cs, rfl, hsz⟩ := okWide_struct Tryd.underlying25 hv
  obtain ⟨fuel, hf⟩ := h
  obtain ⟨r, e, hF⟩ := regs_cells hf
  refine ⟨r, ?_, hF⟩
  obtain ⟨l⟩ := cs
  simp [Value.cells] at e
  rw [e]

end Go.Proofs.YthehpkhhoimecaaDoor
