/-
  The law TurnsDouble returns true for any byte, any bit's number and either value, and writes nothing.
-/
import Derived.Test.YtgkfipiefadaaaaTurnNames
import Derived.BigGuardPart
namespace Go.Proofs.Ytgkfipiefadaaaa
open Go.RowKit

theorem rot_four (v r g : Nat) (hv : v < 256) (hr : Hid (tUp v 0 = r)) (hg : Hid (tRotF 4 v 0 = g)) (w : World) :
    Calls Try.prog 13 #[.int .i64 4, .int .u8 (v : Int), .int .u8 0] w fun e w' => e = .returned (.tuple #[.int .u8 (r : Int), .int .u8 (g : Int)]) ∧ w = w' :=
  rot_at 4 4 v 0 0 r g (by decide) hv (by omega) (Lib.hid rfl) hr hg w
theorem rot_seven (v r g : Nat) (hv : v < 256) (hr : Hid (tDn v 0 = r)) (hg : Hid (tRotF 7 v 0 = g)) (w : World) :
    Calls Try.prog 13 #[.int .i64 7, .int .u8 (v : Int), .int .u8 0] w fun e w' => e = .returned (.tuple #[.int .u8 (r : Int), .int .u8 (g : Int)]) ∧ w = w' :=
  rot_at 7 7 v 0 0 r g (by decide) hv (by omega) (Lib.hid rfl) hr hg w
theorem rot_five (v r g : Nat) (hv : v < 256) (hr : Hid (tDn v (v / 128) = r)) (hg : Hid (tRotF 5 v 0 = g)) (w : World) :
    Calls Try.prog 13 #[.int .i64 5, .int .u8 (v : Int), .int .u8 0] w fun e w' => e = .returned (.tuple #[.int .u8 (r : Int), .int .u8 (g : Int)]) ∧ w = w' :=
  rot_at 5 5 v 0 0 r g (by decide) hv (by omega) (Lib.hid rfl) hr hg w
theorem rot_six (v r g : Nat) (hv : v < 256) (hr : Hid (tUp v 1 = r)) (hg : Hid (tRotF 6 v 0 = g)) (w : World) :
    Calls Try.prog 13 #[.int .i64 6, .int .u8 (v : Int), .int .u8 0] w fun e w' => e = .returned (.tuple #[.int .u8 (r : Int), .int .u8 (g : Int)]) ∧ w = w' :=
  rot_at 6 6 v 0 0 r g (by decide) hv (by omega) (Lib.hid rfl) hr hg w
theorem bit_none (n : Int) (k v g : Nat) (hk : n % 8 = (k : Int)) (hv : v < 256) (hg : Hid (tBitF k v 0 0 = g)) (w : World) :
    Calls Try.prog 12 #[.int .i64 n, .int .u8 (v : Int), .int .u8 0, .int .u8 0] w fun e w' => e = .returned (.int .u8 (g : Int)) ∧ w = w' :=
  bit_at n k v 0 0 g hk hv (by omega) (by omega) hg w
theorem and8n (f m r : Nat) (hf : f < 256) (hm : m < 256) (h : f &&& m = r) : bits .and .u8 (f : Int) (m : Int) = (r : Int) := by rw [u8_and_nat f m hf hm, h]
theorem nByte_z (s z y h x p n c : Bool) : nByte s z y h x p n c &&& 64 = cond z 64 0 := by
  cases s <;> cases z <;> cases y <;> cases h <;> cases x <;> cases p <;> cases n <;> cases c <;> rfl

theorem dbl1 (v a : Nat) (_hv : v < 256) (ea : v * 2 % 256 + 0 = a) : (a : Int) + 256 * ((v : Int) / 128) = 2 * (v : Int) := by omega
theorem dbl2 (v b : Nat) (hv : v < 256) (eb : v / 2 + 128 * 0 = b) : wrap64 (b : Int) = (v : Int) / 2 := by
  unfold wrap64; omega
theorem dbl3 (v : Nat) (hv : v < 256) : wrap64 (v : Int) = (v : Int) := by unfold wrap64; omega
theorem i8_wrap (x : Int) : IntKind.i8.wrap x = (x + 128) % 256 - 128 := by
  have e : IntKind.i8.wrap x = if x % 256 ≥ 128 then x % 256 - 256 else x % 256 := by simp [IntKind.wrap, IntKind.bits, IntKind.signed]
  rw [e]
  split <;> omega
theorem dbl4 (v c : Nat) (hv : v < 256) (ec : v / 2 + 128 * (v / 128) = c) : IntKind.i8.wrap (c : Int) = IntKind.i8.wrap (v : Int) / 2 := by
  rw [i8_wrap, i8_wrap]
  by_cases h : v < 128
  · rw [show v / 128 = 0 from Nat.div_eq_of_lt h, Nat.mul_zero, Nat.add_zero] at ec
    have e1 : ((c : Int) + 128) % 256 = (c : Int) + 128 := Int.emod_eq_of_lt (by omega) (by omega)
    have e2 : ((v : Int) + 128) % 256 = (v : Int) + 128 := Int.emod_eq_of_lt (by omega) (by omega)
    rw [e1, e2]; omega
  · obtain ⟨u, rfl⟩ : ∃ u, v = 128 + u := ⟨v - 128, by omega⟩
    have hu : u < 128 := by omega
    have e0 : (128 + u) / 128 = 1 := by omega
    rw [e0] at ec
    have e1 : ((c : Int) + 128) % 256 = (c : Int) - 128 := by
      rw [show (c : Int) + 128 = ((c : Int) - 128) + 256 * 1 by omega, Int.add_mul_emod_self_left]
      exact Int.emod_eq_of_lt (by omega) (by omega)
    have e2 : (((128 + u : Nat) : Int) + 128) % 256 = (u : Int) := by
      rw [show ((128 + u : Nat) : Int) + 128 = (u : Int) + 256 * 1 by omega, Int.add_mul_emod_self_left]
      exact Int.emod_eq_of_lt (by omega) (by omega)
    rw [e1, e2]; omega
theorem dbl5 (v a d : Nat) (ea : v * 2 % 256 + 0 = a) (ed : v * 2 % 256 + 1 = d) : ((a : Int) + 1) % 256 = (d : Int) := by omega
theorem dbl6 (v a d : Nat) (ea : v * 2 % 256 + 0 = a) (ed : v * 2 % 256 + 1 = d) : (a : Int) + 1 = (d : Int) := by omega
theorem dbl7 (v a : Nat) (ea : v * 2 % 256 + 0 = a) : (a : Int) < 255 := by omega
theorem beq_yes {a b : Int} (h : a = b) : (a == b) = true := by rw [beq_iff_eq]; exact h
theorem dbl_all (v a b c d f g : Nat) (hv : v < 256) (f1 : f < 256) (g1 : g < 256) (ea : tUp v 0 = a) (eb : tDn v 0 = b) (ec : tDn v (v / 128) = c) (ed : tUp v 1 = d) (hf : tRotF 4 v 0 = f) (hg : tRotF 7 v 0 = g) :
    ∃ (t u : Nat), bits .and .u8 (f : Int) 1 = (t : Int) ∧ bits .and .u8 (g : Int) 1 = (u : Int) ∧ ((a : Int) + 256 * (t : Int) == 2 * (v : Int)) = true ∧ wrap64 (b : Int) = (b : Int) ∧ wrap64 (v : Int) = (v : Int) ∧
      (IntKind.i8.wrap (c : Int) == IntKind.i8.wrap (v : Int) / 2) = true ∧ ((d : Int) == ((a : Int) + 1) % 256) = true ∧ ((d : Int) == (a : Int) + 1) = true ∧ (v : Int).tdiv 2 = (b : Int) ∧ (v : Int).tmod 2 = (u : Int) ∧
      (t : Int) ≤ 1 ∧ (u : Int) ≤ 1 ∧ (a : Int) < 255 ∧ (b : Int) < 128 ∧ (c : Int) < 256 ∧ (d : Int) < 256 := by
  have ea' : v * 2 % 256 + 0 = a := ea
  have eb' : v / 2 + 128 * 0 = b := eb
  have ec' : v / 2 + 128 * (v / 128) = c := ec
  have ed' : v * 2 % 256 + 1 = d := ed
  refine ⟨v / 128, v % 2, and8n f 1 _ f1 (by decide) (rot_one 4 v 0 f hv hf), and8n g 1 _ g1 (by decide) (rot_one 7 v 0 g hv hg), beq_yes ?_, ?_, dbl3 v hv, beq_yes (dbl4 v c hv ec'), beq_yes (dbl5 v a d ea' ed').symm, beq_yes (dbl6 v a d ea' ed').symm, ?_, ?_, ?_, ?_, dbl7 v a ea', ?_, ?_, ?_⟩
  · have := dbl1 v a hv ea'; omega
  · have := dbl2 v b hv eb'; have h : (b : Int) = (v : Int) / 2 := by clear ea' ec' ed'; omega
    rw [this, h]
  · rw [Int.tdiv_eq_ediv_of_nonneg (Int.natCast_nonneg _)]; clear ea' ec' ed'; omega
  · rw [Int.tmod_eq_emod_of_nonneg (Int.natCast_nonneg _)]; rfl
  · clear ea' eb' ec' ed'; omega
  · clear ea' eb' ec' ed'; omega
  · clear ea' ec' ed'; omega
  · clear ea' eb' ed'; omega
  · clear ea' eb' ec'; omega
set_option maxRecDepth 100000 in
set_option maxHeartbeats 1600000 in
theorem double_any (n : Int) (k v : Nat) (on : Bool) (hk : n % 8 = (k : Int)) (hv : v < 256) (w : World) :
    Calls Try.prog 8 #[.int .u8 (v : Int), .int .i64 n, .bool on] w fun e w' => e = .returned (.bool true) ∧ Below w.heap.size w w' := by
  have k1 : k < 8 := by omega
  have HK := Lib.hid hk
  obtain ⟨a, ha⟩ : ∃ a, Hid (tUp v 0 = a) := ⟨_, rfl⟩
  obtain ⟨f, hf⟩ : ∃ f, Hid (tRotF 4 v 0 = f) := ⟨_, rfl⟩
  obtain ⟨b, hb⟩ : ∃ b, Hid (tDn v 0 = b) := ⟨_, rfl⟩
  obtain ⟨g, hg⟩ : ∃ g, Hid (tRotF 7 v 0 = g) := ⟨_, rfl⟩
  obtain ⟨c, hc⟩ : ∃ c, Hid (tDn v (v / 128) = c) := ⟨_, rfl⟩
  obtain ⟨c', hc'⟩ : ∃ c', Hid (tRotF 5 v 0 = c') := ⟨_, rfl⟩
  obtain ⟨d, hd⟩ : ∃ d, Hid (tUp v 1 = d) := ⟨_, rfl⟩
  obtain ⟨d', hd'⟩ : ∃ d', Hid (tRotF 6 v 0 = d') := ⟨_, rfl⟩
  obtain ⟨p, hp⟩ : ∃ p, Hid (tPut k v on = p) := ⟨_, rfl⟩
  have p1 : p < 256 := by rw [← hp.out]; exact tPut_lt k v on k1 hv
  obtain ⟨q, hq⟩ : ∃ q, Hid (tPut k v (!on) = q) := ⟨_, rfl⟩
  have q1 : q < 256 := by rw [← hq.out]; exact tPut_lt k v _ k1 hv
  have hpq : Hid (tPut k q on = p) := by show _ = _; rw [← hq.out, put_twice k v on k1 hv]; exact hp.out
  obtain ⟨x, hx⟩ : ∃ x, Hid (tBitF k p 0 0 = x) := ⟨_, rfl⟩
  have x1 : x < 256 := by rw [← hx.out]; exact tBitF_lt _ _ _ _
  have f1 : f < 256 := by rw [← hf.out]; exact tRotF_lt _ _ _
  have g1 : g < 256 := by rw [← hg.out]; exact tRotF_lt _ _ _
  obtain ⟨t, u, e1, e2, s1, s2, s3, s4, s5, s6, q3, q4, t1, u1, a1, b1, c1, d1⟩ := dbl_all v a b c d f g hv f1 g1 ha.out hb.out hc.out hd.out hf.out hg.out
  have e3 : bits .and .u8 (x : Int) 64 = ((cond (!on) 64 0 : Nat) : Int) := by
    refine and8n x 64 _ x1 (by decide) ?_
    rw [← hx.out]
    unfold tBitF
    rw [nByte_z, ← hp.out, put_at_bit k v on k1 hv]
  have v1 : (v : Int) < 256 := by clear s1 s2 s3 s4 s5 s6 q3 q4 e1 e2 e3; omega
  clear hk f1 g1 s2 s3
  cases on
  · have e4 : bits .and .u8 (x : Int) 64 = 64 := e3
    have hq2 : Hid (tPut k v true = q) := hq
    clear e3 hq
    go_enter Try.func8, Try.ntmps8
    go_wp2_with (first
      | (go_at_call 11; refine (turnsAlive_any _).mono ?_; rintro e w' ⟨rfl, rfl⟩)
      | (go_at_call 13; first
        | ((with_reducible refine (rot_four v a f hv ha hf _).mono ?_); rintro e w' ⟨rfl, rfl⟩)
        | ((with_reducible refine (rot_seven v b g hv hb hg _).mono ?_); rintro e w' ⟨rfl, rfl⟩)
        | ((with_reducible refine (rot_five v c c' hv hc hc' _).mono ?_); rintro e w' ⟨rfl, rfl⟩)
        | ((with_reducible refine (rot_six v d d' hv hd hd' _).mono ?_); rintro e w' ⟨rfl, rfl⟩))
      | (go_at_call 17; first
        | ((with_reducible refine (put_at n k v p false HK.out hv hp _).mono ?_); rintro e w' ⟨rfl, rfl⟩)
        | ((with_reducible refine (put_at n k v q true HK.out hv hq2 _).mono ?_); rintro e w' ⟨rfl, rfl⟩)
        | ((with_reducible refine (put_at n k q p false HK.out q1 hpq _).mono ?_); rintro e w' ⟨rfl, rfl⟩))
      | (go_at_call 12; (with_reducible refine (bit_none n k p x HK.out p1 hx _).mono ?_); rintro e w' ⟨rfl, rfl⟩))
    go_ret
    exact ⟨rfl, Below.refl _ _⟩
  · have e4 : bits .and .u8 (x : Int) 64 = 0 := e3
    have hq2 : Hid (tPut k v false = q) := hq
    clear e3 hq
    go_enter Try.func8, Try.ntmps8
    go_wp2_with (first
      | (go_at_call 11; refine (turnsAlive_any _).mono ?_; rintro e w' ⟨rfl, rfl⟩)
      | (go_at_call 13; first
        | ((with_reducible refine (rot_four v a f hv ha hf _).mono ?_); rintro e w' ⟨rfl, rfl⟩)
        | ((with_reducible refine (rot_seven v b g hv hb hg _).mono ?_); rintro e w' ⟨rfl, rfl⟩)
        | ((with_reducible refine (rot_five v c c' hv hc hc' _).mono ?_); rintro e w' ⟨rfl, rfl⟩)
        | ((with_reducible refine (rot_six v d d' hv hd hd' _).mono ?_); rintro e w' ⟨rfl, rfl⟩))
      | (go_at_call 17; first
        | ((with_reducible refine (put_at n k v p true HK.out hv hp _).mono ?_); rintro e w' ⟨rfl, rfl⟩)
        | ((with_reducible refine (put_at n k v q false HK.out hv hq2 _).mono ?_); rintro e w' ⟨rfl, rfl⟩)
        | ((with_reducible refine (put_at n k q p true HK.out q1 hpq _).mono ?_); rintro e w' ⟨rfl, rfl⟩))
      | (go_at_call 12; (with_reducible refine (bit_none n k p x HK.out p1 hx _).mono ?_); rintro e w' ⟨rfl, rfl⟩))
    go_ret
    exact ⟨rfl, Below.refl _ _⟩

end Go.Proofs.Ytgkfipiefadaaaa
