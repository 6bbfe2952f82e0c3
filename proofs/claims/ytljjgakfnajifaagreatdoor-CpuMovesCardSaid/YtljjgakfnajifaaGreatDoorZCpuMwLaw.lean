import Derived.Test.YtljjgakfnajifaaGreatDoorZBase
import Derived.Test.YtljjgakfnajifaaGreatDoorZCpuMw
import Derived.Test.YtljjgakfnajifaaGreatDoorZCpuAw
import Derived.ProofKit
import Derived.OpenShut
import Derived.ChangeOld
import Derived.Below
import Derived.ChangeArms
import Derived.Lib.SmallJoins
import Derived.LaidMore
import Derived.Stop.Joined
import Derived.Lib.LaidTab
import Derived.MakeChecks
import Derived.SevenTiedAt
import Derived.Test.YtljjgakfnajifaaGreatDoorTie
import Derived.Test.YtljjgakfnajifaaGreatDoorCards
namespace Go.Proofs.YtljjgakfnajifaaGreatDoor
open Go.ChangeShapes Go.WideShapes Go.ChangeAt Go.RowKit
section
variable {H : Type} {enc : TypeId × Value → H} {W : World} {fuel : Nat} {y : DataW H × List MemPlace}
theorem kU8 : Tryz.prog.cellsOf 5 = 1 := by kernel_rfl
theorem kU16 : Tryz.prog.cellsOf 23 = 1 := by kernel_rfl
theorem kBool : Tryz.prog.cellsOf 4 = 1 := by kernel_rfl
theorem kAlt : Tryz.prog.cellsOf 22 = 8 := by kernel_rfl
theorem kRegs : Tryz.prog.cellsOf 25 = 29 := by kernel_rfl
theorem bool_open {c : Value} (h : DataW.trod enc Tryz.prog W 0 (fun _ => true) true fuel 4 [c] = some y) : ∃ n, c = .bool n := by
  obtain ⟨a, e, -⟩ := DataW.trod_bool Tryz.underlying4 h
  simp at e; exact ⟨a, e⟩
theorem u8_open {c : Value} (h : DataW.trod enc Tryz.prog W 0 (fun _ => true) true fuel 5 [c] = some y) : ∃ n : Nat, c = .int .u8 (n : Int) ∧ n < 256 := by
  obtain ⟨a, e, -, w⟩ := DataW.trod_int Tryz.underlying5 h
  simp at e
  have := bounds_u8 w
  obtain ⟨n, rfl⟩ := Int.eq_ofNat_of_zero_le this.1
  exact ⟨n, e, by omega⟩
theorem u16_open {c : Value} (h : DataW.trod enc Tryz.prog W 0 (fun _ => true) true fuel 23 [c] = some y) : ∃ n : Nat, c = .int .u16 (n : Int) ∧ n < 65536 := by
  obtain ⟨a, e, -, w⟩ := DataW.trod_int Tryz.underlying23 h
  simp at e
  have := bounds_u16 w
  obtain ⟨n, rfl⟩ := Int.eq_ofNat_of_zero_le this.1
  exact ⟨n, e, by omega⟩
theorem alt_open {a0 a1 a2 a3 a4 a5 a6 a7 : Value} (h : DataW.trod enc Tryz.prog W 0 (fun _ => true) true fuel 22 [a0, a1, a2, a3, a4, a5, a6, a7] = some y) :
    ∃ n0 n1 n2 n3 n4 n5 n6 n7 : Nat, (a0 = .int .u8 (n0 : Int) ∧ a1 = .int .u8 (n1 : Int) ∧ a2 = .int .u8 (n2 : Int) ∧ a3 = .int .u8 (n3 : Int) ∧ a4 = .int .u8 (n4 : Int) ∧ a5 = .int .u8 (n5 : Int) ∧ a6 = .int .u8 (n6 : Int) ∧ a7 = .int .u8 (n7 : Int)) ∧ n0 < 256 ∧ n1 < 256 ∧ n2 < 256 ∧ n3 < 256 ∧ n4 < 256 ∧ n5 < 256 ∧ n6 < 256 ∧ n7 < 256 := by
  obtain ⟨xs, m, rfl, -, hlen, hn, hel⟩ := DataW.trod_array Tryz.underlying22 h
  match xs, hn, hel with
  | [x0, x1, x2, x3, x4, x5, x6, x7], _, hel =>
    have h0 := hel 0 (by decide)
    have h1 := hel 1 (by decide)
    have h2 := hel 2 (by decide)
    have h3 := hel 3 (by decide)
    have h4 := hel 4 (by decide)
    have h5 := hel 5 (by decide)
    have h6 := hel 6 (by decide)
    have h7 := hel 7 (by decide)
    simp [kU8] at h0 h1 h2 h3 h4 h5 h6 h7
    obtain ⟨n0, rfl, b0⟩ := u8_open h0
    obtain ⟨n1, rfl, b1⟩ := u8_open h1
    obtain ⟨n2, rfl, b2⟩ := u8_open h2
    obtain ⟨n3, rfl, b3⟩ := u8_open h3
    obtain ⟨n4, rfl, b4⟩ := u8_open h4
    obtain ⟨n5, rfl, b5⟩ := u8_open h5
    obtain ⟨n6, rfl, b6⟩ := u8_open h6
    obtain ⟨n7, rfl, b7⟩ := u8_open h7
    exact ⟨n0, n1, n2, n3, n4, n5, n6, n7, ⟨rfl, rfl, rfl, rfl, rfl, rfl, rfl, rfl⟩, b0, b1, b2, b3, b4, b5, b6, b7⟩
set_option maxRecDepth 100000 in
theorem regs_cells {cs : List Value} (h : DataW.trod enc Tryz.prog W 0 (fun _ => true) true fuel 25 cs = some y) : ∃ r : Rg, cs = r.cells ∧ r.Fits := by
  obtain ⟨xs, n, -, -, hl, hxs, hf⟩ := DataW.trod_struct Tryz.underlying25 h
  rw [kRegs] at hl
  match cs, hl, xs, hxs with
  | [c0, c1, c2, c3, c4, c5, c6, c7, c8, c9, c10, c11, c12, c13, c14, c15, c16, c17, c18, c19, c20, c21, c22, c23, c24, c25, c26, c27, c28], _, [y0, y1, y2, y3, y4, y5, y6, y7, y8, y9, y10, y11, y12, y13, y14, y15, y16, y17, y18, y19, y20, y21], _ =>
    have h0 := hf 0 _ rfl
    simp [kU8] at h0
    have h1 := hf 1 _ rfl
    simp [kU8] at h1
    have h2 := hf 2 _ rfl
    simp [kU8] at h2
    have h3 := hf 3 _ rfl
    simp [kU8] at h3
    have h4 := hf 4 _ rfl
    simp [kU8] at h4
    have h5 := hf 5 _ rfl
    simp [kU8] at h5
    have h6 := hf 6 _ rfl
    simp [kU8] at h6
    have h7 := hf 7 _ rfl
    simp [kU8] at h7
    have h8 := hf 8 _ rfl
    simp [kAlt] at h8
    have h9 := hf 9 _ rfl
    simp [kU16] at h9
    have h10 := hf 10 _ rfl
    simp [kU16] at h10
    have h11 := hf 11 _ rfl
    simp [kU16] at h11
    have h12 := hf 12 _ rfl
    simp [kU16] at h12
    have h13 := hf 13 _ rfl
    simp [kU16] at h13
    have h14 := hf 14 _ rfl
    simp [kU8] at h14
    have h15 := hf 15 _ rfl
    simp [kU8] at h15
    have h16 := hf 16 _ rfl
    simp [kU8] at h16
    have h17 := hf 17 _ rfl
    simp [kU8] at h17
    have h18 := hf 18 _ rfl
    simp [kBool] at h18
    have h19 := hf 19 _ rfl
    simp [kBool] at h19
    have h20 := hf 20 _ rfl
    simp [kBool] at h20
    have h21 := hf 21 _ rfl
    simp [kBool] at h21
    clear hf
    obtain ⟨n0, rfl, b0⟩ := u8_open h0
    obtain ⟨n1, rfl, b1⟩ := u8_open h1
    obtain ⟨n2, rfl, b2⟩ := u8_open h2
    obtain ⟨n3, rfl, b3⟩ := u8_open h3
    obtain ⟨n4, rfl, b4⟩ := u8_open h4
    obtain ⟨n5, rfl, b5⟩ := u8_open h5
    obtain ⟨n6, rfl, b6⟩ := u8_open h6
    obtain ⟨n7, rfl, b7⟩ := u8_open h7
    obtain ⟨n8, n9, n10, n11, n12, n13, n14, n15, ⟨rfl, rfl, rfl, rfl, rfl, rfl, rfl, rfl⟩, b8, b9, b10, b11, b12, b13, b14, b15⟩ := alt_open h8
    obtain ⟨n16, rfl, b16⟩ := u16_open h9
    obtain ⟨n17, rfl, b17⟩ := u16_open h10
    obtain ⟨n18, rfl, b18⟩ := u16_open h11
    obtain ⟨n19, rfl, b19⟩ := u16_open h12
    obtain ⟨n20, rfl, b20⟩ := u16_open h13
    obtain ⟨n21, rfl, b21⟩ := u8_open h14
    obtain ⟨n22, rfl, b22⟩ := u8_open h15
    obtain ⟨n23, rfl, b23⟩ := u8_open h16
    obtain ⟨n24, rfl, b24⟩ := u8_open h17
    obtain ⟨n25, rfl⟩ := bool_open h18
    obtain ⟨n26, rfl⟩ := bool_open h19
    obtain ⟨n27, rfl⟩ := bool_open h20
    obtain ⟨n28, rfl⟩ := bool_open h21
    exact ⟨⟨n0, n1, n2, n3, n4, n5, n6, n7, n8, n9, n10, n11, n12, n13, n14, n15, n16, n17, n18, n19, n20, n21, n22, n23, n24, n25, n26, n27, n28⟩, rfl, ⟨b0, b1, b2, b3, b4, b5, b6, b7, b8, b9, b10, b11, b12, b13, b14, b15, b16, b17, b18, b19, b20, b21, b22, b23, b24⟩⟩
end
set_option maxRecDepth 100000 in
theorem regs_in {H : Type} {enc : TypeId × Value → H} {W : World} {b0 : Nat} {v : Value} {d : DataW H} {q : List MemPlace} (hv : Value.okWide Tryz.prog W .any b0 25 v) (h : DataW.Trod enc Tryz.prog W 0 (fun _ => true) true 25 v d q) :
    ∃ r : Rg, v = r.v ∧ r.Fits := by
  obtain ⟨cs, rfl, hsz⟩ := okWide_struct Tryz.underlying25 hv
  obtain ⟨fuel, hf⟩ := h
  obtain ⟨r, e, hF⟩ := regs_cells hf
  refine ⟨r, ?_, hF⟩
  obtain ⟨l⟩ := cs
  simp [Value.cells] at e
  rw [e]
end Go.Proofs.YtljjgakfnajifaaGreatDoor
namespace Go.Proofs.YtljjgakfnajifaaGreatDoor.cpuMoves
open Go.ChangeShapes Go.WideShapes Go.ChangeAt Go.RowKit
theorem own : ownKnob Tryz.prog.godebug = none := by kernel_rfl
theorem door_met (os : Os) (args : Array Value) : laidMetH Tryz.prog Rows.cpuMovesRow.laid ((World.doorLaid Tryz.prog 400 os).forCall (fun _ _ => 0) ⟨#[], args, []⟩).memory :=
  laidMetH_of_parts3 (fuel := 8) (laidMet_of_run' 8 (by kernel_rfl) (by kernel_rfl)) (by kernel_rfl) (by kernel_rfl)
theorem laidOut : laidOutB Tryz.prog = true := by kernel_rfl
set_option maxRecDepth 100000 in
set_option maxHeartbeats 6400000 in
theorem lifted (os : Os) (started : os.Started) (H : Type) (enc : TypeId × Value → H) :
    ReturnsInHanded {} Tryz.checked os 7 .any (fun w args => (Rows.cpuMovesSpec.pre enc Tryz.prog Tryz.f7 [] false w args ∧ laidMetH Tryz.prog Rows.cpuMovesRow.laid w) ∧ sizedMet enc Tryz.prog Tryz.f7 (OpenSpec.ofChange Rows.cpuMovesSpec) false w args) (Rows.cpuMovesSpec.post enc Tryz.prog Tryz.f7 false true false false) := by
  refine returnsInHanded_of_change_and (C := Tryz.checked) (X := fun w _ => laidMetH Tryz.prog Rows.cpuMovesRow.laid w) (fun _ _ _ hh h => h.of_heap hh) own started (by kernel_rfl) Tryz.func7
    (ChangeSpec.witness_shaped (enc := enc) (C := Tryz.checked) (os := os) (X := fun w _ => laidMetH Tryz.prog Rows.cpuMovesRow.laid w) false (World.doorLaid Tryz.prog 400 os) #[.agg #[.int .u8 0, .int .u8 0, .int .u8 0, .int .u8 0, .int .u8 0, .int .u8 0, .int .u8 0, .int .u8 0, .int .u8 0, .int .u8 0, .int .u8 0, .int .u8 0, .int .u8 0, .int .u8 0, .int .u8 0, .int .u8 0, .int .u16 0, .int .u16 0, .int .u16 0, .int .u16 0, .int .u16 0, .int .u8 0, .int .u8 0, .int .u8 0, .int .u8 0, .bool false, .bool false, .bool false, .bool false], .slice none 0 0] 8 rfl (World.shaped_of_RefB (by kernel_rfl) (by kernel_rfl)) (by kernel_rfl) (by kernel_rfl) (by kernel_rfl) (door_met os _)) ?_
  intro W base args ds gs before hval0 hW _ _ hL _
  have hT := tabs_of hL
  have hval : ∀ (j : Nat) t v, Tryz.f7.params[j]? = some t → args[j]? = some v → Value.okWide Tryz.prog W .any base t v := hval0
  have hW' := hW
  obtain ⟨p, q, hA0, hV, rfl, hfz, hnd⟩ := hW
  have hA : DataW.TrodAll enc Tryz.prog W 0 (fun _ => true) true Tryz.f7.params.toList args.toList ds p := hA0
  rw [Tryz.params7] at hA hval
  obtain ⟨v0, vs0, d0, ds0, p0, q0, hargs, rfl, rfl, h0, r0⟩ := trodAll_cons hA
  obtain ⟨v1, vs1, d1, ds1, p1, q1, rfl, rfl, rfl, h1, r1⟩ := trodAll_cons r0
  obtain ⟨rfl, rfl, rfl⟩ := trodAll_nil r1
  obtain rfl : args = #[v0, v1] := by cases args; simp_all
  obtain ⟨rfl, rfl⟩ := trodVars_none hV
  have k0 := h0
  have lt0 : ∀ x ∈ p0, x.block < W.heap.size := by obtain ⟨m, hm⟩ := k0; exact DataW.trod_lt m _ _ _ hm
  have k1 := h1
  have lt1 : ∀ x ∈ p1, x.block < W.heap.size := by obtain ⟨m, hm⟩ := k1; exact DataW.trod_lt m _ _ _ hm
  obtain ⟨r, rfl, hr⟩ := regs_in (hval 0 25 v0 rfl rfl) h0
  obtain ⟨bs1, aa1, cc1, rfl, hc1, hb1, hr1⟩ := bytes_in (hval 1 30 v1 rfl rfl) h1
  clear hA0 hval0
  refine ((moves_any r hr bs1 aa1 cc1 hb1 W hr1 hT)).mono fun e W' ⟨he, bel⟩ => ?_
  subst he
  exact ⟨_, rfl, _, _, _, [], _, [], hW', trodAll_mk1 (shut_bool Tryz.underlying4 _), (trodAll_cons_mk (Below.trod laidOut (by kernel_rfl) (of_decide_eq_true (by kernel_rfl)) k0 bel lt0) (trodAll_cons_mk (Below.trod laidOut (by kernel_rfl) (of_decide_eq_true (by kernel_rfl)) k1 bel lt1) trodAll_mk0)), rfl, bel.frame _, fun h => by cases h⟩
theorem over : Rows.cpuMovesRow.holds Tryz.pinned (OpenSpec.ofChange Rows.cpuMovesSpec) :=
  OpenClaim.holds_of_wide 7 Tryz.f7 rfl rfl rfl rfl rfl rfl rfl ⟨rfl, rfl, rfl, rfl, rfl⟩ rfl rfl rfl rfl rfl (by kernel_rfl) Tryz.func7 (by kernel_rfl)
    (of_decide_eq_true (by kernel_rfl)) (by unfold Func.isWrapper; first | (rw [if_pos (by decide +kernel)]; kernel_rfl) | (rw [if_neg (by decide +kernel)]; exact ⟨rfl, rfl⟩))
    (fun os started H enc _ => lifted os started H enc)
theorem proved : Rows.CpuMovesCardSaid :=
  Claim7.holds_tied_plain_at .later [] [.data, .data] true _ false
    over (fun _ h => by cases h) (by kernel_rfl) (fun _ h => by cases h) cpuMoves_row_tie rfl ⟨rfl, rfl⟩ (by kernel_rfl) rfl
    (fun f fn hf hfn => by
      obtain rfl : f = 7 := Option.some.inj ((show Tryz.prog.funcNamed "joystick/joysticklaw12.CpuMoves" = some 7 by kernel_rfl).symm.trans hf) |>.symm
      obtain rfl : fn = Tryz.f7 := (Option.some.inj (Tryz.func7.symm.trans hfn)).symm
      exact ⟨by kernel_rfl, fun j t ht => by
        rw [Tryz.params7] at ht
        have hm : t ∈ [25, 30] := by simpa using Array.mem_of_getElem? ht
        have hall : ([25, 30].all fun u => !Tryz.prog.wantsStandIn u) = true := by kernel_rfl
        exact (show Tryz.prog.wantsStandIn t = false by simpa using List.all_eq_true.1 hall t hm)⟩)
    (by kernel_rfl)
end Go.Proofs.YtljjgakfnajifaaGreatDoor.cpuMoves
