/-
  The document's low, Turn, said, Rot, Quick, each by one contract.
-/
import Derived.Test.YtgkfipiefadaaaaTurnSpec
import Derived.Test.YtgkfipiefadaaaaSumRefPar
namespace Go.Proofs.Ytgkfipiefadaaaa
open Go.RowKit

theorem ret_two' {a b : Int} {v f : Nat} (h : a = (v : Int)) (h' : b = (f : Int)) : (Ending.returned (.tuple #[.int .u8 a, .int .u8 b]) : Ending) = .returned (.tuple #[.int .u8 (v : Int), .int .u8 (f : Int)]) := by rw [h, h']
theorem ret_turn {a : Int} {v : Nat} {b c : Bool} (h : a = (v : Int)) (h' : b = c) : (Ending.returned (.tuple #[.int .u8 a, .bool b]) : Ending) = .returned (.tuple #[.int .u8 (v : Int), .bool c]) := by rw [h, h']

theorem tmod_low (n d : Int) (k : Nat) (hd : 0 < d) (h : n % d = (k : Int)) : n.tmod d = (k : Int) ∨ (n.tmod d = (k : Int) - d ∧ (k : Int) < d) := by
  rw [Int.tmod_eq_emod, h]
  split
  · left; simp
  · right
    refine ⟨by rw [Int.natAbs_of_nonneg (by omega)], ?_⟩
    rw [← h]; exact Int.emod_lt_of_pos _ hd
theorem low8_at (n : Int) (k : Nat) (hk : n % 8 = (k : Int)) (w : World) :
    Calls Try.prog 25 #[.int .i64 n, .int .i64 8] w fun e w' => e = .returned (.int .i64 (k : Int)) ∧ w = w' := by
  have k0 : (k : Int) < 8 := by omega
  rcases tmod_low n 8 k (by omega) hk with h | ⟨h, h2⟩
  · clear hk
    go_enter Try.func25, Try.ntmps25
    go_wp2
    go_ret
    exact ⟨rfl, rfl⟩
  · clear hk
    have e : (k : Int) - 8 + 8 = (k : Int) := by omega
    go_enter Try.func25, Try.ntmps25
    go_wp2
    go_ret
    exact ⟨rfl, rfl⟩
theorem low4_at (n : Int) (k : Nat) (hk : n % 4 = (k : Int)) (w : World) :
    Calls Try.prog 25 #[.int .i64 n, .int .i64 4] w fun e w' => e = .returned (.int .i64 (k : Int)) ∧ w = w' := by
  have k0 : (k : Int) < 4 := by omega
  rcases tmod_low n 4 k (by omega) hk with h | ⟨h, h2⟩
  · clear hk
    go_enter Try.func25, Try.ntmps25
    go_wp2
    go_ret
    exact ⟨rfl, rfl⟩
  · clear hk
    have e : (k : Int) - 4 + 4 = (k : Int) := by omega
    go_enter Try.func25, Try.ntmps25
    go_wp2
    go_ret
    exact ⟨rfl, rfl⟩

theorem turn_one (t : Nat) (q : Int) (h : q = (t : Int)) (b : Bool) (hb : Nat.beq t 1 = b) : (q == 1) = b := by
  rw [← hb, Bool.eq_iff_iff, beq_iff_eq, Nat.beq_eq]; omega
theorem rturn_at (k v f c r : Nat) (o : Bool) (hk : k < 8) (hv : v < 256) (hf : f < 256) (hc : Hid (f % 2 = c)) (hr : Hid (tV k v c = r)) (ho : Hid (Nat.beq (tO k v) 1 = o)) (w : World) :
    Calls Try.prog 24 #[.int .i64 (k : Int), .int .u8 (v : Int), .int .u8 (f : Int)] w fun e w' => e = .returned (.tuple #[.int .u8 (r : Int), .bool o]) ∧ w = w' := by
  have hc8 : k = 0 ∨ k = 1 ∨ k = 2 ∨ k = 3 ∨ k = 4 ∨ k = 5 ∨ k = 6 ∨ k = 7 := by omega
  have hc2 : (f : Int) % 2 = (c : Int) := by have := hc.out; omega
  have c1 : (c : Int) ≤ 1 := by omega
  clear hk hc
  rcases hc8 with rfl | rfl | rfl | rfl | rfl | rfl | rfl | rfl
  · have h1 : Hid (v * 2 % 256 + v / 128 = r) := hr
    have h2 : Hid (Nat.beq (v / 128) 1 = o) := ho
    clear hr ho
    go_enter Try.func24, Try.ntmps24
    go_wp2
    go_ret2
    exact ⟨ret_turn (by have := h1.out; omega) (turn_one _ _ (by omega) _ h2.out), rfl⟩
  · have h1 : Hid (v / 2 + 128 * (v % 2) = r) := hr
    have h2 : Hid (Nat.beq (v % 2) 1 = o) := ho
    clear hr ho
    go_enter Try.func24, Try.ntmps24
    go_wp2
    go_ret2
    exact ⟨ret_turn (by have := h1.out; omega) (turn_one _ _ (by omega) _ h2.out), rfl⟩
  · have h1 : Hid (v * 2 % 256 + c = r) := hr
    have h2 : Hid (Nat.beq (v / 128) 1 = o) := ho
    clear hr ho
    go_enter Try.func24, Try.ntmps24
    go_wp2
    go_ret2
    exact ⟨ret_turn (by have := h1.out; omega) (turn_one _ _ (by omega) _ h2.out), rfl⟩
  · have h1 : Hid (v / 2 + 128 * c = r) := hr
    have h2 : Hid (Nat.beq (v % 2) 1 = o) := ho
    clear hr ho
    go_enter Try.func24, Try.ntmps24
    go_wp2
    go_ret2
    exact ⟨ret_turn (by have := h1.out; omega) (turn_one _ _ (by omega) _ h2.out), rfl⟩
  · have h1 : Hid (v * 2 % 256 + 0 = r) := hr
    have h2 : Hid (Nat.beq (v / 128) 1 = o) := ho
    clear hr ho
    go_enter Try.func24, Try.ntmps24
    go_wp2
    go_ret2
    exact ⟨ret_turn (by have := h1.out; omega) (turn_one _ _ (by omega) _ h2.out), rfl⟩
  · have h1 : Hid (v / 2 + 128 * (v / 128) = r) := hr
    have h2 : Hid (Nat.beq (v % 2) 1 = o) := ho
    clear hr ho
    go_enter Try.func24, Try.ntmps24
    go_wp2
    go_ret2
    exact ⟨ret_turn (by have := h1.out; omega) (turn_one _ _ (by omega) _ h2.out), rfl⟩
  · have h1 : Hid (v * 2 % 256 + 1 = r) := hr
    have h2 : Hid (Nat.beq (v / 128) 1 = o) := ho
    clear hr ho
    go_enter Try.func24, Try.ntmps24
    go_wp2
    go_ret2
    exact ⟨ret_turn (by have := h1.out; omega) (turn_one _ _ (by omega) _ h2.out), rfl⟩
  · have h1 : Hid (v / 2 + 128 * 0 = r) := hr
    have h2 : Hid (Nat.beq (v % 2) 1 = o) := ho
    clear hr ho
    go_enter Try.func24, Try.ntmps24
    go_wp2
    go_ret2
    exact ⟨ret_turn (by have := h1.out; omega) (turn_one _ _ (by omega) _ h2.out), rfl⟩

set_option maxHeartbeats 800000 in
theorem rsaid_at (v : Nat) (s z y x p c : Bool) (h : v < 256) (hs : Hid (nS v = s ∧ nZ v = z ∧ nBit 32 v = y ∧ nBit 8 v = x)) (hp : Hid (nPar v = p)) (w : World) :
    Calls Try.prog 27 #[.int .u8 (v : Int), .bool c] w fun e w' => e = .returned (.agg #[.bool s, .bool z, .bool y, .bool false, .bool x, .bool p, .bool false, .bool c]) ∧ Below w.heap.size w w' := by
  have HM := Lib.hid (Own.start w)
  have tg1 : Hid True := trivial
  have tg2 : Hid True := trivial
  have tg3 : Hid True := trivial
  go_enter Try.func27, Try.ntmps27
  go_wp2_with (first
    | ((with_reducible apply own_box HM); exact rfl; (conv => lhs; whnf); exact rfl; exact rfl; (first | (clear tg1; intro w' g1 HM') | (clear tg2; intro w' g2 HM') | (clear tg3; intro w' g3 HM') | (clear tg4; intro w' g4 HM') | intro w' g' HM'); clear HM; have HM := HM'; clear HM'; all_goals skip) | ((with_reducible apply own_alloc HM); exact rfl; (first | (with_reducible exact zeroF)); exact rfl; (first | (clear tg1; intro w' g1 HM') | (clear tg2; intro w' g2 HM') | (clear tg3; intro w' g3 HM') | (clear tg4; intro w' g4 HM') | intro w' g' HM'); clear HM; have HM := HM'; clear HM'; all_goals skip) | ((with_reducible apply own_cell HM); exact rfl; exact rfl; (first | (with_reducible exact oneBool)); (first | with_reducible exact .z | with_reducible exact .s .z | with_reducible exact .s (.s .z) | with_reducible exact .s (.s (.s .z)) | with_reducible exact .s (.s (.s (.s .z))) | with_reducible exact .s (.s (.s (.s (.s .z))))); (focus repeat' (first | with_reducible exact .z | with_reducible apply Drop.s)); exact rfl; all_goals skip) | ((with_reducible apply own_load HM); exact rfl; exact rfl; (first | (with_reducible exact aggF)); (first | with_reducible exact .z | with_reducible exact .s .z | with_reducible exact .s (.s .z) | with_reducible exact .s (.s (.s .z)) | with_reducible exact .s (.s (.s (.s .z))) | with_reducible exact .s (.s (.s (.s (.s .z))))); (focus repeat' (first | with_reducible exact .z | with_reducible apply Drop.s)); (focus repeat' (first | with_reducible exact .z | with_reducible apply Take.s)); exact rfl; all_goals skip) | ((with_reducible apply own_store HM); exact rfl; exact rfl; (conv => lhs; whnf); exact rfl; (first | with_reducible exact .z | with_reducible exact .s .z | with_reducible exact .s (.s .z) | with_reducible exact .s (.s (.s .z)) | with_reducible exact .s (.s (.s (.s .z))) | with_reducible exact .s (.s (.s (.s (.s .z))))); (focus repeat' (first | with_reducible exact .z | with_reducible apply Over.p | with_reducible apply Over.s)); (first | with_reducible exact .z | with_reducible exact .s .z | with_reducible exact .s (.s .z) | with_reducible exact .s (.s (.s .z)) | with_reducible exact .s (.s (.s (.s .z))) | with_reducible exact .s (.s (.s (.s (.s .z))))); (first | (with_reducible exact (aggF).size) | (with_reducible exact (oneBool).size)); exact rfl; exact rfl; exact rfl; exact rfl; intro w' HM'; clear HM; have HM := HM'; clear HM'; all_goals skip)
    | (go_at_call 29; (with_reducible refine (rshape_at v s z y x h hs _).mono ?_); rintro e w' ⟨rfl, hb⟩; have HM' := Lib.hid (HM.out.call hb); clear HM hb; have HM := HM'; clear HM')
    | (go_at_call 34; (with_reducible refine (rparity_any v h _).mono ?_); rintro e w' ⟨rfl, rfl⟩; rw [hp.out]))
  refine bodyPost_ret (v := .agg #[.bool _, .bool _, .bool _, .bool _, .bool _, .bool _, .bool _, .bool _]) (own_results HM Try.results27 _ rfl (by first | exact .z | exact .s .z) aggF) rfl ⟨?_, Own.fin HM⟩
  exact flags_eq rfl rfl rfl rfl rfl rfl rfl rfl

set_option maxHeartbeats 800000 in
theorem rrot_at (op : Int) (k v f c r g : Nat) (hk : op % 8 = (k : Int)) (hv : v < 256) (hf : f < 256) (hc : Hid (f % 2 = c)) (hr : Hid (tV k v c = r)) (hg : Hid (tRotF k v c = g)) (w : World) :
    Calls Try.prog 14 #[.int .i64 op, .int .u8 (v : Int), .int .u8 (f : Int)] w fun e w' => e = .returned (.tuple #[.int .u8 (r : Int), .int .u8 (g : Int)]) ∧ Below w.heap.size w w' := by
  have k1 : k < 8 := by omega
  have c1 : c ≤ 1 := by have := hc.out; omega
  have r1 : r < 256 := by rw [← hr.out]; exact tV_lt k v c hv c1
  obtain ⟨o, ho⟩ : ∃ o, Hid (Nat.beq (tO k v) 1 = o) := ⟨_, rfl⟩
  obtain ⟨s, z, y, x, hs⟩ : ∃ s z y x, Hid (nS r = s ∧ nZ r = z ∧ nBit 32 r = y ∧ nBit 8 r = x) := ⟨_, _, _, _, rfl, rfl, rfl, rfl⟩
  obtain ⟨p, hp⟩ : ∃ p, Hid (nPar r = p) := ⟨_, rfl⟩
  have HG : Hid (nByte s z y false x p false o = g) := by
    show _ = _
    rw [← hg.out]
    unfold tRotF tSaid
    rw [hr.out, ho.out, hp.out, hs.out.1, hs.out.2.1, hs.out.2.2.1, hs.out.2.2.2]
  have HM := Lib.hid (Own.start w)
  clear hg
  go_enter Try.func14, Try.ntmps14
  go_wp2_with (first
    | (go_at_call 25; (with_reducible refine (low8_at op k hk _).mono ?_); rintro e w' ⟨rfl, rfl⟩)
    | (go_at_call 24; (with_reducible refine (rturn_at k v f c r o k1 hv hf hc hr ho _).mono ?_); rintro e w' ⟨rfl, rfl⟩)
    | (go_at_call 27; (with_reducible refine (rsaid_at r s z y x p o r1 hs hp _).mono ?_); rintro e w' ⟨rfl, hb⟩; have HM' := Lib.hid (HM.out.call hb); clear HM hb; have HM := HM'; clear HM')
    | (go_at_call 26; (with_reducible refine (byte_at s z y false x p false o g HG _).mono ?_); rintro e w' ⟨rfl, hb⟩; have HM' := Lib.hid (HM.out.call hb); clear HM hb; have HM := HM'; clear HM'))
  go_ret2
  exact ⟨ret_two' rfl rfl, Own.fin HM⟩

theorem of_to (f : Nat) (b7 b6 b5 b4 b3 b2 b1 b0 : Bool) (h : f < 256) (hr : Hid (nBit 128 f = b7 ∧ nBit 64 f = b6 ∧ nBit 32 f = b5 ∧ nBit 16 f = b4 ∧ nBit 8 f = b3 ∧ nBit 4 f = b2 ∧ nBit 2 f = b1 ∧ nBit 1 f = b0)) (w : World) :
    Calls Try.prog 28 #[.int .u8 (f : Int)] w fun e w' =>
    e = .returned (.agg #[.bool b7, .bool b6, .bool b5, .bool b4, .bool b3, .bool b2, .bool b1, .bool b0]) ∧ Below w.heap.size w w' := by
  obtain ⟨rfl, rfl, rfl, rfl, rfl, rfl, rfl, rfl⟩ := hr.out; exact of_at f h w

set_option maxHeartbeats 1600000 in
theorem rquick_at (op : Int) (k v f c r g : Nat) (hk : op % 4 = (k : Int)) (hv : v < 256) (hf : f < 256) (hc : Hid (f % 2 = c)) (hr : Hid (tV k v c = r)) (hg : Hid (tQuickF k v c f = g)) (w : World) :
    Calls Try.prog 15 #[.int .i64 op, .int .u8 (v : Int), .int .u8 (f : Int)] w fun e w' => e = .returned (.tuple #[.int .u8 (r : Int), .int .u8 (g : Int)]) ∧ Below w.heap.size w w' := by
  have k1 : k < 8 := by omega
  have c1 : c ≤ 1 := by have := hc.out; omega
  have r1 : r < 256 := by rw [← hr.out]; exact tV_lt k v c hv c1
  obtain ⟨o, ho⟩ : ∃ o, Hid (Nat.beq (tO k v) 1 = o) := ⟨_, rfl⟩
  obtain ⟨s, z, y, x, hs⟩ : ∃ s z y x, Hid (nS r = s ∧ nZ r = z ∧ nBit 32 r = y ∧ nBit 8 r = x) := ⟨_, _, _, _, rfl, rfl, rfl, rfl⟩
  obtain ⟨b7, b6, b5, b4, b3, b2, b1, b0, hb⟩ : ∃ s z b5 b4 b3 p b1 b0, Hid (nBit 128 f = s ∧ nBit 64 f = z ∧ nBit 32 f = b5 ∧ nBit 16 f = b4 ∧ nBit 8 f = b3 ∧ nBit 4 f = p ∧ nBit 2 f = b1 ∧ nBit 1 f = b0) := ⟨_, _, _, _, _, _, _, _, rfl, rfl, rfl, rfl, rfl, rfl, rfl, rfl⟩
  have HG : Hid (nByte b7 b6 y false x b2 false o = g) := by
    show _ = _
    rw [← hg.out]
    unfold tQuickF
    rw [hr.out, ho.out, hs.out.2.2.1, hs.out.2.2.2, hb.out.1, hb.out.2.1, hb.out.2.2.2.2.2.1]
  have HM := Lib.hid (Own.start w)
  have tg1 : Hid True := trivial
  have tg2 : Hid True := trivial
  have tg3 : Hid True := trivial
  clear hg
  go_enter Try.func15, Try.ntmps15
  go_wp2_with (first
    | ((with_reducible apply own_box HM); exact rfl; (conv => lhs; whnf); exact rfl; exact rfl; (first | (clear tg1; intro w' g1 HM') | (clear tg2; intro w' g2 HM') | (clear tg3; intro w' g3 HM') | (clear tg4; intro w' g4 HM') | intro w' g' HM'); clear HM; have HM := HM'; clear HM'; all_goals skip) | ((with_reducible apply own_alloc HM); exact rfl; (first | (with_reducible exact zeroF)); exact rfl; (first | (clear tg1; intro w' g1 HM') | (clear tg2; intro w' g2 HM') | (clear tg3; intro w' g3 HM') | (clear tg4; intro w' g4 HM') | intro w' g' HM'); clear HM; have HM := HM'; clear HM'; all_goals skip) | ((with_reducible apply own_cell HM); exact rfl; exact rfl; (first | (with_reducible exact oneBool)); (first | with_reducible exact .z | with_reducible exact .s .z | with_reducible exact .s (.s .z) | with_reducible exact .s (.s (.s .z)) | with_reducible exact .s (.s (.s (.s .z))) | with_reducible exact .s (.s (.s (.s (.s .z))))); (focus repeat' (first | with_reducible exact .z | with_reducible apply Drop.s)); exact rfl; all_goals skip) | ((with_reducible apply own_load HM); exact rfl; exact rfl; (first | (with_reducible exact aggF)); (first | with_reducible exact .z | with_reducible exact .s .z | with_reducible exact .s (.s .z) | with_reducible exact .s (.s (.s .z)) | with_reducible exact .s (.s (.s (.s .z))) | with_reducible exact .s (.s (.s (.s (.s .z))))); (focus repeat' (first | with_reducible exact .z | with_reducible apply Drop.s)); (focus repeat' (first | with_reducible exact .z | with_reducible apply Take.s)); exact rfl; all_goals skip) | ((with_reducible apply own_store HM); exact rfl; exact rfl; (conv => lhs; whnf); exact rfl; (first | with_reducible exact .z | with_reducible exact .s .z | with_reducible exact .s (.s .z) | with_reducible exact .s (.s (.s .z)) | with_reducible exact .s (.s (.s (.s .z))) | with_reducible exact .s (.s (.s (.s (.s .z))))); (focus repeat' (first | with_reducible exact .z | with_reducible apply Over.p | with_reducible apply Over.s)); (first | with_reducible exact .z | with_reducible exact .s .z | with_reducible exact .s (.s .z) | with_reducible exact .s (.s (.s .z)) | with_reducible exact .s (.s (.s (.s .z))) | with_reducible exact .s (.s (.s (.s (.s .z))))); (first | (with_reducible exact (aggF).size) | (with_reducible exact (oneBool).size)); exact rfl; exact rfl; exact rfl; exact rfl; intro w' HM'; clear HM; have HM := HM'; clear HM'; all_goals skip)
    | (go_at_call 25; (with_reducible refine (low4_at op k hk _).mono ?_); rintro e w' ⟨rfl, rfl⟩)
    | (go_at_call 24; (with_reducible refine (rturn_at k v f c r o k1 hv hf hc hr ho _).mono ?_); rintro e w' ⟨rfl, rfl⟩)
    | (go_at_call 28; (with_reducible refine (of_to f b7 b6 b5 b4 b3 b2 b1 b0 hf hb _).mono ?_); rintro e w' ⟨rfl, hbl⟩; have HM' := Lib.hid (HM.out.call hbl); clear HM hbl; have HM := HM'; clear HM')
    | (go_at_call 29; (with_reducible refine (rshape_at r s z y x r1 hs _).mono ?_); rintro e w' ⟨rfl, hbl⟩; have HM' := Lib.hid (HM.out.call hbl); clear HM hbl; have HM := HM'; clear HM')
    | (go_at_call 26; (with_reducible refine (byte_at b7 b6 y false x b2 false o g HG _).mono ?_); rintro e w' ⟨rfl, hbl⟩; have HM' := Lib.hid (HM.out.call hbl); clear HM hbl; have HM := HM'; clear HM'))
  go_ret2
  exact ⟨ret_two' rfl rfl, Own.fin HM⟩

end Go.Proofs.Ytgkfipiefadaaaa
