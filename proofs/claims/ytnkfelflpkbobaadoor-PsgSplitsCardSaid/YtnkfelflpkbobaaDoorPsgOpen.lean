/-
  A sound that came in, by its eighteen cells.
-/
import Derived.Test.YtnkfelflpkbobaaDoorPsgSound
import Derived.ProofKit
import Derived.OpenShut
import Derived.ChangeOld
import Derived.Below
import Derived.Lib.SmallJoins
import Derived.Deep.Strs
import Derived.Deep.Slices
import Derived.Test.YtnkfelflpkbobaaDoorArrays
namespace Go.Proofs.YtnkfelflpkbobaaDoor
open Go.ChangeShapes Go.WideShapes Go.ChangeAt Go.RowKit Go.Joins Go.Deep

section
variable {H : Type} {enc : TypeId × Value → H} {W : World} {fuel : Nat} {y : DataW H × List MemPlace}
theorem kInt : Tryd.prog.cellsOf 3 = 1 := by kernel_rfl
theorem kBool : Tryd.prog.cellsOf 4 = 1 := by kernel_rfl
theorem kU8 : Tryd.prog.cellsOf 5 = 1 := by kernel_rfl
theorem kU16 : Tryd.prog.cellsOf 25 = 1 := by kernel_rfl
theorem kT : Tryd.prog.cellsOf 23 = 3 := by kernel_rfl
theorem kT3 : Tryd.prog.cellsOf 24 = 9 := by kernel_rfl
theorem kN : Tryd.prog.cellsOf 27 = 4 := by kernel_rfl
theorem kQ : Tryd.prog.cellsOf 28 = 4 := by kernel_rfl
theorem kS : Tryd.prog.cellsOf 30 = 18 := by kernel_rfl

theorem int_open {c : Value} (h : DataW.trod enc Tryd.prog W 0 (fun _ => true) true fuel 3 [c] = some y) : ∃ n, c = .int .i64 n := by
  obtain ⟨a, e, -, -⟩ := DataW.trod_int Tryd.underlying3 h
  simp at e; exact ⟨a, e⟩
theorem bool_open {c : Value} (h : DataW.trod enc Tryd.prog W 0 (fun _ => true) true fuel 4 [c] = some y) : ∃ n, c = .bool n := by
  obtain ⟨a, e, -⟩ := DataW.trod_bool Tryd.underlying4 h
  simp at e; exact ⟨a, e⟩
theorem u8_open {c : Value} (h : DataW.trod enc Tryd.prog W 0 (fun _ => true) true fuel 5 [c] = some y) : ∃ n, c = .int .u8 n ∧ 0 ≤ n ∧ n < 256 := by
  obtain ⟨a, e, -, w⟩ := DataW.trod_int Tryd.underlying5 h
  simp at e
  have := bounds_u8 w
  exact ⟨a, e, by omega, by omega⟩
theorem u16_open {c : Value} (h : DataW.trod enc Tryd.prog W 0 (fun _ => true) true fuel 25 [c] = some y) : ∃ n, c = .int .u16 n ∧ 0 ≤ n ∧ n < 65536 := by
  obtain ⟨a, e, -, w⟩ := DataW.trod_int Tryd.underlying25 h
  simp at e
  have := bounds_u16 w
  exact ⟨a, e, by omega, by omega⟩
theorem tone_open {c0 c1 c2 : Value} (h : DataW.trod enc Tryd.prog W 0 (fun _ => true) true fuel 23 [c0, c1, c2] = some y) : ∃ t : Ton, c0 = .int .i64 t.p ∧ c1 = .int .i64 t.c ∧ c2 = .bool t.o := by
  obtain ⟨y0, y1, y2, n, -, -, h0, h1, h2⟩ := trod_struct3 Tryd.underlying23 h
  simp [kInt] at h0
  simp [kInt] at h1
  simp [kBool] at h2
  obtain ⟨p, rfl⟩ := int_open h0
  obtain ⟨c, rfl⟩ := int_open h1
  obtain ⟨o, rfl⟩ := bool_open h2
  exact ⟨⟨p, c, o⟩, rfl, rfl, rfl⟩
theorem noise_open {c0 c1 c2 c3 : Value} (h : DataW.trod enc Tryd.prog W 0 (fun _ => true) true fuel 27 [c0, c1, c2, c3] = some y) :
    ∃ n : Noi, c0 = .int .u8 n.m ∧ c1 = .int .i64 n.c ∧ c2 = .bool n.h ∧ c3 = .int .u16 n.x ∧ 0 ≤ n.m ∧ n.m < 256 ∧ 0 ≤ n.x ∧ n.x < 65536 := by
  obtain ⟨y0, y1, y2, y3, n, -, -, h0, h1, h2, h3⟩ := trod_struct4 Tryd.underlying27 h
  simp [kU8] at h0
  simp [kInt] at h1
  simp [kBool] at h2
  simp [kU16] at h3
  obtain ⟨m, rfl, m0, m1⟩ := u8_open h0
  obtain ⟨c, rfl⟩ := int_open h1
  obtain ⟨o, rfl⟩ := bool_open h2
  obtain ⟨x, rfl, x0, x1⟩ := u16_open h3
  exact ⟨⟨m, c, o, x⟩, rfl, rfl, rfl, rfl, m0, m1, x0, x1⟩
theorem tones_open {a0 a1 a2 b0 b1 b2 c0 c1 c2 : Value} (h : DataW.trod enc Tryd.prog W 0 (fun _ => true) true fuel 24 [a0, a1, a2, b0, b1, b2, c0, c1, c2] = some y) :
    ∃ t0 t1 t2 : Ton, [a0, a1, a2, b0, b1, b2, c0, c1, c2] = t0.cells ++ t1.cells ++ t2.cells := by
  obtain ⟨xs, m, rfl, -, hlen, hn, hel⟩ := DataW.trod_array Tryd.underlying24 h
  match xs, hn, hel with
  | [x0, x1, x2], _, hel =>
    have h0 := hel 0 (by decide)
    have h1 := hel 1 (by decide)
    have h2 := hel 2 (by decide)
    simp [kT] at h0 h1 h2
    obtain ⟨t0, rfl, rfl, rfl⟩ := tone_open h0
    obtain ⟨t1, rfl, rfl, rfl⟩ := tone_open h1
    obtain ⟨t2, rfl, rfl, rfl⟩ := tone_open h2
    exact ⟨t0, t1, t2, rfl⟩
theorem quiets_open {c0 c1 c2 c3 : Value} (h : DataW.trod enc Tryd.prog W 0 (fun _ => true) true fuel 28 [c0, c1, c2, c3] = some y) :
    ∃ q0 q1 q2 q3 : Int, [c0, c1, c2, c3] = [.int .u8 q0, .int .u8 q1, .int .u8 q2, .int .u8 q3] ∧ (0 ≤ q0 ∧ q0 < 256) ∧ (0 ≤ q1 ∧ q1 < 256) ∧ (0 ≤ q2 ∧ q2 < 256) ∧ (0 ≤ q3 ∧ q3 < 256) := by
  obtain ⟨xs, m, rfl, -, hlen, hn, hel⟩ := DataW.trod_array Tryd.underlying28 h
  match xs, hn, hel with
  | [x0, x1, x2, x3], _, hel =>
    have h0 := hel 0 (by decide)
    have h1 := hel 1 (by decide)
    have h2 := hel 2 (by decide)
    have h3 := hel 3 (by decide)
    simp [kU8] at h0 h1 h2 h3
    obtain ⟨q0, rfl, b0⟩ := u8_open h0
    obtain ⟨q1, rfl, b1⟩ := u8_open h1
    obtain ⟨q2, rfl, b2⟩ := u8_open h2
    obtain ⟨q3, rfl, b3⟩ := u8_open h3
    exact ⟨q0, q1, q2, q3, rfl, b0, b1, b2, b3⟩
theorem sound_cells {cs : List Value} (h : DataW.trod enc Tryd.prog W 0 (fun _ => true) true fuel 30 cs = some y) : ∃ S : Snd, cs = S.cells ∧ S.Fits := by
  obtain ⟨y0, y1, y2, y3, n, -, hl, h0, h1, h2, h3⟩ := trod_struct4 Tryd.underlying30 h
  rw [kS] at hl
  match cs, hl with
  | [a0, a1, a2, b0, b1, b2, c0, c1, c2, n0, n1, n2, n3, q0, q1, q2, q3, l], _ =>
    simp [kT3] at h0
    simp [kN] at h1
    simp [kQ] at h2
    simp [kU8] at h3
    obtain ⟨t0, t1, t2, e⟩ := tones_open h0
    obtain ⟨N, rfl, rfl, rfl, rfl, m0, m1, x0, x1⟩ := noise_open h1
    obtain ⟨r0, r1, r2, r3, e2, b0, b1, b2, b3⟩ := quiets_open h2
    obtain ⟨L, rfl, l0, l1⟩ := u8_open h3
    simp at e e2
    obtain ⟨rfl, rfl, rfl, rfl, rfl, rfl, rfl, rfl, rfl⟩ := e
    obtain ⟨rfl, rfl, rfl, rfl⟩ := e2
    exact ⟨⟨t0, t1, t2, N, r0, r1, r2, r3, L⟩, rfl, ⟨m0, m1, x0, x1, b0.1, b0.2, b1.1, b1.2, b2.1, b2.2, b3.1, b3.2, l0, l1⟩⟩
end

theorem sound_in {H : Type} {enc : TypeId × Value → H} {W : World} {b0 : Nat} {v : Value} {d : DataW H} {q : List MemPlace} (hv : Value.okWide Tryd.prog W .any b0 30 v) (h : DataW.Trod enc Tryd.prog W 0 (fun _ => true) true 30 v d q) :
    ∃ S : Snd, v = S.v ∧ S.Fits := by
  obtain ⟨cs, rfl, hsz⟩ := okWide_struct Tryd.underlying30 hv
  obtain ⟨fuel, hf⟩ := h
  obtain ⟨S, e, hF⟩ := sound_cells hf
  refine ⟨S, ?_, hF⟩
  obtain ⟨l⟩ := cs
  simp [Value.cells] at e
  rw [e]
theorem ints4_in {H : Type} {enc : TypeId × Value → H} {W : World} {b0 : Nat} {v : Value} {d : DataW H} {q : List MemPlace} (hv : Value.okWide Tryd.prog W .any b0 42 v) (h : DataW.Trod enc Tryd.prog W 0 (fun _ => true) true 42 v d q) :
    ∃ a b c e : Int, v = .agg #[.int .i64 a, .int .i64 b, .int .i64 c, .int .i64 e] := by
  obtain ⟨fuel, hf⟩ := h
  obtain ⟨xs, m, rfl, -, hlen, hn, hel⟩ := DataW.trod_array Tryd.underlying42 hf
  have k4 : Tryd.prog.cellsOf 42 = 4 := by kernel_rfl
  rw [k4] at hlen
  obtain ⟨cs, rfl, hsz⟩ := okWide_arr Tryd.underlying42 hv
  obtain ⟨l⟩ := cs
  simp [Value.cells] at hlen hel
  match l, hlen, xs, hn, hel with
  | [c0, c1, c2, c3], _, [x0, x1, x2, x3], _, hel =>
    have h0 := hel 0 (by decide)
    have h1 := hel 1 (by decide)
    have h2 := hel 2 (by decide)
    have h3 := hel 3 (by decide)
    simp [kInt] at h0 h1 h2 h3
    obtain ⟨a, rfl⟩ := int_open h0
    obtain ⟨b, rfl⟩ := int_open h1
    obtain ⟨c, rfl⟩ := int_open h2
    obtain ⟨e, rfl⟩ := int_open h3
    exact ⟨a, b, c, e, rfl⟩

end Go.Proofs.YtnkfelflpkbobaaDoor
