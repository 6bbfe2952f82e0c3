/-
  The law BusKeeps returns true for every mapper byte, address and byte, and writes nothing that was there.
-/
import Derived.Test.YtlnoomganphbeaaBusPapers
import Derived.Test.YtlnoomganphbeaaBusNames
import Derived.Test.YtlnoomganphbeaaTexts
import Derived.RegionCalls
import Derived.BigQuiet
import Derived.Deep.QuietTactic
namespace Go.Proofs.Ytlnoomganphbeaa
open Go.RowKit

/-- at how many of the first k places two lists are unlike -/
def diffTo (A B : List Int) : Nat → Int
  | 0 => 0
  | k + 1 => diffTo A B k + if A.getD k 0 = B.getD k 0 then 0 else 1
theorem diffTo_bd (A B : List Int) : ∀ k : Nat, 0 ≤ diffTo A B k ∧ diffTo A B k ≤ k
  | 0 => by simp [diffTo]
  | k + 1 => by
    have := diffTo_bd A B k
    simp only [diffTo]; split <;> omega
theorem diffTo_same (A : List Int) : ∀ k, diffTo A A k = 0
  | 0 => rfl
  | k + 1 => by simp [diffTo, diffTo_same A k]
theorem diffTo_tri (A B C : List Int) : ∀ k, diffTo A C k ≤ diffTo A B k + diffTo B C k
  | 0 => by simp [diffTo]
  | k + 1 => by
    have := diffTo_tri A B C k
    simp only [diffTo]
    split <;> split <;> split <;> first | omega | (exfalso; simp_all; done)
theorem diffTo_set (A : List Int) (i : Nat) (v : Int) (hi : i < A.length) : ∀ k, (k ≤ i → diffTo A (A.set i v) k = 0) ∧ diffTo A (A.set i v) k ≤ 1
  | 0 => by simp [diffTo]
  | k + 1 => by
    have h := diffTo_set A i v hi k
    simp only [diffTo, getD_set A i k v hi]
    by_cases hk : i = k
    · subst hk
      have h0 := h.1 (Nat.le_refl _)
      refine ⟨fun h => absurd h (by omega), ?_⟩
      rw [h0]; split <;> omega
    · rw [if_neg hk, if_pos rfl]
      refine ⟨fun h' => ?_, by have := h.2; omega⟩
      have := h.1 (by omega); omega

theorem bit8 (m : Int) (h0 : 0 ≤ m) (h1 : m ≤ 255) : (bits .and .u8 m 8 != 0) = decide (m / 8 % 2 = 1) := by
  rw [and8 m h0 h1]
  by_cases h : m / 8 % 2 = 1
  · simp [h]
  · have : m / 8 % 2 = 0 := by omega
    simp [this]
theorem mirror (a : Int) (h0 : 49152 ≤ a) (h1 : a ≤ 65535) : ∃ r, bits .xor .u16 a 8192 = r ∧ 49152 ≤ r ∧ r ≤ 65535 ∧ r % 8192 = a % 8192 := by
  obtain ⟨n, rfl⟩ := Int.eq_ofNat_of_zero_le (show 0 ≤ a by omega)
  have e : bits .xor .u16 (n : Int) 8192 = ((n ^^^ 8192 : Nat) : Int) := by
    have := u16_xor (n : Int) 8192 (by omega) (by omega) (by omega) (by omega)
    simpa using this
  have hx : n ^^^ 8192 = if n / 8192 % 2 = 0 then n + 8192 else n - 8192 := by
    have := (by decide +kernel : ∀ q : Fin 8, (q.val ^^^ 1) = if q.val % 2 = 0 then q.val + 1 else q.val - 1)
    have hd : n = 2 ^ 13 * (n / 8192) + n % 8192 := by omega
    have h2 : n ^^^ 8192 = 2 ^ 13 * ((n / 8192) ^^^ 1) + n % 8192 := by
      apply Nat.eq_of_testBit_eq
      intro i
      rw [Nat.testBit_xor]
      conv => lhs; rw [hd]
      rw [Nat.testBit_two_pow_mul_add _ (by omega), Nat.testBit_two_pow_mul_add _ (by omega), show (8192 : Nat) = 2 ^ 13 * 1 + 0 from rfl, Nat.testBit_two_pow_mul_add _ (by omega)]
      split <;> simp [Nat.testBit_xor]
    have h3 := this ⟨n / 8192, by omega⟩
    simp only at h3
    rw [h2, h3]
    by_cases hq : n / 8192 % 2 = 0
    · rw [if_pos hq, if_pos hq]; omega
    · rw [if_neg hq, if_neg hq]; omega
  refine ⟨_, rfl, ?_⟩
  rw [e, hx]
  split <;> omega

theorem load_on (W0 : World) (b g d : Nat) (zs ds rs : List Int) (w : World) (h : Hid (On W0 w b g zs rs)) (hw : Hid (Whole w d 5 (u8s ds))) (hl : Hid (ds.length = 40964)) (ho : Hid (Oct ds)) :
    Calls Try.prog 12 #[.pointer (some ⟨b, 0, none⟩), .slice (some ⟨d, 0, none⟩) 40964 40964] w fun e w' => e = .returned (.int .i64 0) ∧ Hid (On W0 w' b g ds rs) ∧ Hid (Whole w' d 5 (u8s ds)) ∧ Hid (w.grownBy w' (some b)) := by
  have hne : d ≠ b := hw.out.apart h.out.1.1 (by decide)
  have hb : Bytes w w.heap.size (some ⟨d, 0, none⟩) 40964 ds := by
    have := Bytes.ofWhole hw.out
    rwa [hl.out] at this
  exact (load_good b g zs _ 40964 ds w h.out.1 hb ho.out (Nat.le_refl _) (by rintro x ⟨⟩; exact hne)).mono fun _ _ ⟨he, h1, h2⟩ => ⟨he, h.out.turned h1 h2, hw.out.grown h2 (by simpa using hne), h2⟩

/-- what the law's loop and tests find, by what the write was -/
structure Keeps (m a v : Int) (Z1 Z2 : List Int) (r : Int) : Prop where
  l1 : Z1.length = 40964
  o1 : Oct Z1
  l2 : Z2.length = 40964
  w1 : writeOf bus0 65532 m = Z1
  w2 : writeOf Z1 a v = Z2
  ways : (65532 ≤ a ∧ diffTo Z1 Z2 40964 ≤ 2 ∧ Hid (readOf (imgRom 4) (bkI 4) Z2 r = v)) ∨
    (49152 ≤ a ∧ a < 65532 ∧ diffTo Z1 Z2 40964 ≤ 1 ∧ Hid (readOf (imgRom 4) (bkI 4) Z2 a = v) ∧ Hid (readOf (imgRom 4) (bkI 4) Z2 r = v)) ∨
    (32768 ≤ a ∧ a < 49152 ∧ (bits .and .u8 m 8 != 0) = true ∧ diffTo Z1 Z2 40964 ≤ 1 ∧ Hid (readOf (imgRom 4) (bkI 4) Z2 a = v)) ∨
    (32768 ≤ a ∧ a < 49152 ∧ (bits .and .u8 m 8 != 0) = false ∧ diffTo Z1 Z2 40964 = 0) ∨
    (a < 32768 ∧ diffTo Z1 Z2 40964 = 0)

theorem keeps_all (m a v r : Int) (ha : a ≤ 65535) (m0 : 0 ≤ m) (m1 : m ≤ 255) (hr : 49152 ≤ a → 49152 ≤ r ∧ r % 8192 = a % 8192) : ∃ Z1 Z2, Keeps m a v Z1 Z2 r := by
  obtain ⟨Z1, e1⟩ : ∃ Z, writeOf bus0 65532 m = Z := ⟨_, rfl⟩
  have g1 := m0_getD bus0_length m
  have l1 : Z1.length = 40964 := by rw [← e1, writeOf_length, bus0_length]
  have o1 : Oct Z1 := by rw [← e1]; exact writeOf_oct _ bus0_oct m0 m1
  rw [e1] at g1
  have hm1 : Z1.getD 40960 0 = m := by rw [g1, if_pos rfl]
  obtain ⟨Z2, e2⟩ : ∃ Z, writeOf Z1 a v = Z := ⟨_, rfl⟩
  have l2 : Z2.length = 40964 := by rw [← e2, writeOf_length, l1]
  refine ⟨Z1, Z2, l1, o1, l2, e1, e2, ?_⟩
  have rram : ∀ x, 49152 ≤ x → x % 8192 = a % 8192 → readOf (imgRom 4) (bkI 4) Z2 x = Z2.getD (a % 8192).toNat 0 := fun x hx he => by
    have hp : placeOf Z2 x = some (a % 8192).toNat := by unfold placeOf; rw [if_pos hx, he]
    unfold readOf; rw [hp]
  have hi : (a % 8192).toNat < 8192 := by omega
  by_cases h1 : 65532 ≤ a
  · left
    have e2' : Z2 = (Z1.set (a % 8192).toNat v).set (40960 + (a - 65532).toNat) v := by
      rw [← e2]; unfold writeOf placeSet placeOf
      rw [if_pos h1, if_pos (show 49152 ≤ a by omega)]
    refine ⟨h1, ?_, ?_⟩
    · have t := diffTo_tri Z1 (Z1.set (a % 8192).toNat v) Z2 40964
      have t1 := (diffTo_set Z1 (a % 8192).toNat v (by omega) 40964).2
      have t2 := (diffTo_set (Z1.set (a % 8192).toNat v) (40960 + (a - 65532).toNat) v (by rw [List.length_set]; omega) 40964).2
      rw [← e2'] at t2
      omega
    · have := hr (by omega)
      show _ = _
      rw [rram r this.1 this.2, e2', getD_set _ _ _ _ (by rw [List.length_set]; omega), getD_set _ _ _ _ (by omega)]
      rw [if_neg (by omega), if_pos rfl]
  · right
    by_cases h2 : 49152 ≤ a
    · left
      have e2' : Z2 = Z1.set (a % 8192).toNat v := by
        rw [← e2]; unfold writeOf placeSet placeOf
        rw [if_neg h1, if_pos h2]
      have hg : Z2.getD (a % 8192).toNat 0 = v := by rw [e2', getD_set _ _ _ _ (by omega), if_pos rfl]
      refine ⟨h2, by omega, ?_, ?_, ?_⟩
      · rw [e2']; exact (diffTo_set Z1 _ v (by omega) 40964).2
      · show _ = _; rw [rram a h2 rfl, hg]
      · have := hr h2
        show _ = _; rw [rram r this.1 this.2, hg]
    · right
      by_cases h3 : 32768 ≤ a
      · by_cases h4 : m / 8 % 2 = 1
        · left
          have e2' : Z2 = Z1.set (papI a m) v := by rw [← e2, write_paper h3 (by omega) (by rw [hm1]; exact h4), hm1]
          have lp := papI_lo a m
          have hm2 : Z2.getD 40960 0 = m := by rw [e2', getD_set _ _ _ _ (by omega), if_neg (by omega), hm1]
          refine ⟨h3, by omega, by rw [bit8 m m0 m1]; simpa using h4, ?_, ?_⟩
          · rw [e2']; exact (diffTo_set Z1 _ v (by omega) 40964).2
          · show _ = _
            rw [read_paper h3 (by omega) (by rw [hm2]; exact h4), hm2, e2', getD_set _ _ _ _ (by omega), if_pos rfl]
        · right; left
          have e2' : Z2 = Z1 := by rw [← e2, write_hid (by omega) (by rw [hm1]; omega)]
          refine ⟨h3, by omega, by rw [bit8 m m0 m1]; simpa using h4, by rw [e2', diffTo_same]⟩
      · right; right
        have e2' : Z2 = Z1 := by
          rw [← e2]; unfold writeOf placeSet placeOf
          rw [if_neg h1, if_neg h2, if_pos (.inl (by omega))]
        exact ⟨by omega, by rw [e2', diffTo_same]⟩

/-- what is known at each round of the law's loop -/
def KAt (w wr : World) (b g d1 d2 : Nat) (Z1 Z2 : List Int) : Prop := On w wr b g Z2 (imgRom 4) ∧ Whole wr d1 5 (u8s Z1) ∧ Whole wr d2 5 (u8s Z2)
theorem KAt.next {w wr w' : World} {b g d1 d2 : Nat} {Z1 Z2 : List Int} (h : Hid (KAt w wr b g d1 d2 Z1 Z2)) (hb : Below wr.heap.size wr w') : Hid (KAt w w' b g d1 d2 Z1 Z2) :=
  ⟨h.out.1.next hb, h.out.2.1.under hb h.out.2.1.inside, h.out.2.2.under hb h.out.2.2.inside⟩
theorem u8_at {W : World} {g : Nat} {zs : List Int} (h : Whole W g 5 (u8s zs)) (i : Nat) (hi : i < zs.length) : W.cell? ⟨g, i, none⟩ = some (.int .u8 (zs.getD i 0)) := by
  rw [h.at_ i, u8s_get, List.getElem?_eq_getElem hi, Option.map_some, List.getD_eq_getElem?_getD, List.getElem?_eq_getElem hi]
  rfl

theorem read_k (W0 w : World) (b g d1 d2 : Nat) (Z1 Z2 : List Int) (a v : Int) (h0 : 0 ≤ a) (h1 : a ≤ 65535) (h : Hid (KAt W0 w b g d1 d2 Z1 Z2)) (hv : Hid (readOf (imgRom 4) (bkI 4) Z2 a = v)) :
    Calls Try.prog 18 #[.pointer (some ⟨b, 0, none⟩), .int .u16 a] w fun e w' => e = .returned (.int .u8 v) ∧ Hid (KAt W0 w' b g d1 d2 Z1 Z2) :=
  (read_on W0 b g Z2 _ _ (fit_img 4 (by omega)) a v h0 h1 w h.out.1 hv).mono fun _ _ ⟨he, _, n, hn⟩ => ⟨he, by subst hn; exact KAt.next h (below_drewN w n)⟩

set_option maxRecDepth 100000 in
set_option maxHeartbeats 3200000 in
theorem keeps_any (m a v : Int) (m0 : 0 ≤ m) (m1 : m ≤ 255) (a0 : 0 ≤ a) (a1 : a ≤ 65535) (v0 : 0 ≤ v) (v1 : v ≤ 255) (w : World) :
    Calls Try.prog 6 #[.int .u8 m, .int .u16 a, .int .u8 v] w fun e w' => e = .returned (.bool true) ∧ Below w.heap.size w w' := by
  have F : Hid (RomFit (imgRom 4) (bkI 4)) := fit_img 4 (by omega)
  obtain ⟨r, hx⟩ : ∃ r, bits .xor .u16 a 8192 = r := ⟨_, rfl⟩
  have hr : 49152 ≤ a → 49152 ≤ r ∧ r ≤ 65535 ∧ r % 8192 = a % 8192 := fun h => by
    obtain ⟨r', e, h1⟩ := mirror a h a1
    rw [hx] at e; subst e; exact h1
  obtain ⟨Z1, Z2, l1, o1, l2, e1, e2, ways⟩ := keeps_all m a v r a1 m0 m1 (fun h => ⟨(hr h).1, (hr h).2.2⟩)
  have L1 := Lib.hid l1
  have O1 := Lib.hid o1
  have L2 := Lib.hid l2
  have K1 := Lib.hid e1
  have K2 := Lib.hid e2
  have HX := Lib.hid hx
  have HR := Lib.hid hr
  have HW := Lib.hid ways
  have hdb := diffTo_bd Z1 Z2
  have HD := Lib.hid hdb
  clear l1 o1 l2 e1 e2 hx hr ways hdb
  go_enter Try.func6, Try.ntmps6
  go_wp2_with (first
    | (go_at_call 11; refine (alive_any _).mono ?_; rintro e w0 ⟨rfl, H0⟩)
    | (go_at_call 14; refine (image_open w 4 (by omega) _ H0.out).mono ?_; rintro e w1 ⟨ai, Li, rfl, H1, -⟩)
    | (go_at_call 10; refine (rom_img w _ _ 4 (by omega) _ (by assumption)).mono ?_; rintro e w2 ⟨g, rfl, H2, -⟩)
    | (go_at_call 9; refine (bus_cart w g _ _ (by assumption)).mono ?_; rintro e w3 ⟨b, rfl, H3, -⟩)
    | (go_at_call_of 20 (Value.int IntKind.u16 65532); refine (write_is w b g _ _ _ _ _ (by omega) (by omega) (by omega) (by omega) _ (by assumption) K1).mono ?_; rintro e w4 ⟨rfl, H4, -⟩)
    | (go_at_call 20; refine (write_is w b g _ _ _ _ _ (by omega) (by omega) (by omega) (by omega) _ (by assumption) K2).mono ?_; rintro e w6 ⟨rfl, H6, G6⟩)
    | (go_at_call 13; refine (dump_on w b g Z1 _ _ (by assumption)).mono ?_; rintro e w5 ⟨d1, rfl, H5, D5, -⟩)
    | (go_at_call 13; refine (dump_on w b g Z2 _ _ (by assumption)).mono ?_; rintro e w7 ⟨d2, rfl, H7, D7, B7⟩))
  have N1 : d1 ≠ b := D5.out.2.apart H5.out.1.1 (by decide)
  have KW : Hid (KAt w w7 b g d1 d2 Z1 Z2) := by
    have h1 : Whole w6 d1 5 (u8s Z1) := D5.out.2.grown G6.out (by simpa using N1)
    exact ⟨H7.out, h1.under B7.out h1.inside, D7.out.2⟩
  clear H0 H1 H2 H3 H4 H5 H6 H7 D5 D7 B7 G6
  go_loopw [10, 31, 11] (fun c i _ wr => ∃ k : Nat, k ≤ 40964 ∧ i = .int .i64 k ∧ c = .int .i64 (diffTo Z1 Z2 k) ∧ Hid (KAt w wr b g d1 d2 Z1 Z2)) (fun _ i _ _ => 40964 - (intOf i).toNat)
  case atStart => exact ⟨0, by omega, rfl, rfl, KW⟩
  case round =>
    obtain ⟨k, hk, rfl, rfl, HK⟩ := hrel
    have hdk := HD.out k
    have hstep : diffTo Z1 Z2 (k + 1) = diffTo Z1 Z2 k + if Z1.getD k 0 = Z2.getD k 0 then 0 else 1 := rfl
    have HS := Lib.hid hstep
    clear hstep
    by_cases hlt : k < 40964
    · have hlt' : (k : Int) < 40964 := by omega
      have c1 := u8_at HK.out.2.1 k (by rw [L1.out]; exact hlt)
      have c2 := u8_at HK.out.2.2 k (by rw [L2.out]; exact hlt)
      by_cases he : Z1.getD k 0 = Z2.getD k 0
      · have HS' : Hid (diffTo Z1 Z2 (k + 1) = diffTo Z1 Z2 k) := by show _ = _; rw [HS.out, if_pos he, Int.add_zero]
        rw [← he] at c2
        generalize Z1.getD k 0 = z at c1 c2
        generalize diffTo Z1 Z2 k = D at *
        clear he HS hlt
        go_wp2_with fail
        go_quiet (fail)
        go_wp2_with fail
        go_roundw
        case rel => exact ⟨k + 1, by omega, by go_num, by rw [HS'.out], KAt.next HK (below_drewN _ _)⟩
        case measure => simp [intOf]; omega
      · have HS' : Hid (diffTo Z1 Z2 (k + 1) = diffTo Z1 Z2 k + 1) := by show _ = _; rw [HS.out, if_neg he]
        generalize Z1.getD k 0 = z1 at c1 he
        generalize Z2.getD k 0 = z2 at c2 he
        generalize diffTo Z1 Z2 k = D at *
        have hne : (z1 != z2) = true := by simp [he]
        clear HS hlt he
        go_wp2_with fail
        go_quiet (fail)
        go_wp2_with fail
        go_roundw
        case rel => exact ⟨k + 1, by omega, by go_num, by rw [HS'.out], KAt.next HK (below_drewN _ _)⟩
        case measure => simp [intOf]; omega
    · obtain rfl : k = 40964 := by omega
      clear hlt HS
      generalize diffTo Z1 Z2 40964 = D at *
      have hx := HX.out
      have T0 : ∀ W, Hid (Whole W d1 5 (u8s Z1)) → Hid ((convert 29 9 (.slice (some ⟨d1, 0, none⟩) 40964 40964)).run Try.prog W = .ok (.string (strOfNums Z1)) W) := fun W h => text_of L1.out.symm h.out
      have T1 := Lib.hid T0
      clear T0
      rcases HW.out with ⟨q0, q1, R1⟩ | ⟨q0, q1, q2, R1, R2⟩ | ⟨q0, q1, q2, q3, R1⟩ | ⟨q0, q1, q2, q3⟩ | ⟨q0, q1⟩
      case' inl => have hrr := HR.out (by omega); obtain ⟨r0, r1, -⟩ := hrr
      case' inr.inl => have hrr := HR.out (by omega); obtain ⟨r0, r1, -⟩ := hrr
      all_goals
        clear HW HR HX
        go_wp2_with (go_at_call 18; refine (read_k w _ b g d1 d2 Z1 Z2 _ v (by omega) (by omega) (by assumption) (by assumption)).mono ?_; rintro e w8 ⟨rfl, HK⟩)
        have KD := KAt.next HK ((Below.refl _ _).drew)
        have ON : Hid (On w _ b g Z2 (imgRom 4)) := KD.out.1
        have DN : Hid (Whole _ d1 5 (u8s Z1)) := KD.out.2.1
        clear HK KD
        go_region_with (first
          | (go_at_call 12; refine (load_on w b g d1 Z2 Z1 (imgRom 4) _ ON DN L1 O1).mono ?_; rintro e w9 ⟨rfl, H9, D9, -⟩; have cv9 := (T1.out _ D9).out)
          | (go_at_call 13; refine (dump_on w b g Z1 (imgRom 4) _ H9).mono ?_; rintro e w10 ⟨d3, rfl, H10, D10, B10⟩; have cva := (T1.out _ (D9.out.under B10.out D9.out.inside)).out; have cvb := text_of (c := 40964) L1.out.symm D10.out.2))
        all_goals
          clear cv9 cva cvb
          go_wp2_with fail
          go_ret
          exact ⟨rfl, H10.out.2.2.1⟩

end Go.Proofs.Ytlnoomganphbeaa
