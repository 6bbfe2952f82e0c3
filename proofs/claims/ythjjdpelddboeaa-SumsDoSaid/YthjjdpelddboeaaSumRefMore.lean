/-
  The document's Compare, Inc, Dec, Daa, Flip, each by one contract.
-/
import Derived.Test.YthjjdpelddboeaaSumRefAdd
import Derived.Test.YthjjdpelddboeaaSumFlip
namespace Go.Proofs.Ythjjdpelddboeaa
open Go.RowKit

theorem of_to (f : Nat) (s z y h x p n c : Bool) (hf : f < 256) (hr : Hid (nBit 128 f = s ∧ nBit 64 f = z ∧ nBit 32 f = y ∧ nBit 16 f = h ∧ nBit 8 f = x ∧ nBit 4 f = p ∧ nBit 2 f = n ∧ nBit 1 f = c)) (w : World) :
    Calls Try.prog 42 #[.int .u8 (f : Int)] w fun e w' => e = .returned (.agg #[.bool s, .bool z, .bool y, .bool h, .bool x, .bool p, .bool n, .bool c]) ∧ Below w.heap.size w w' := by
  obtain ⟨rfl, rfl, rfl, rfl, rfl, rfl, rfl, rfl⟩ := hr.out; exact of_at f hf w
theorem rparity_at (v : Nat) (p : Bool) (h : v < 256) (hp : Hid (nPar v = p)) (w : World) : Calls Try.prog 20 #[.int .u8 (v : Int)] w fun e w' => e = .returned (.bool p) ∧ w = w' := by
  rw [← hp.out]; exact rparity_any v h w
theorem bit_iff (k v : Nat) (q : Int) (hq : q = ((v / k % 2 : Nat) : Int)) (b : Bool) (h : nBit k v = b) : (q == 1) = b := by rw [bit_of v k q hq, h]
theorem pair_eq {v g : Nat} {a b : Int} (h : a = v) (h' : b = g) : (Ending.returned (.tuple #[.int .u8 a, .int .u8 b]) : Ending) = .returned (.tuple #[.int .u8 (v : Int), .int .u8 (g : Int)]) := by rw [h, h']

set_option maxHeartbeats 800000 in
theorem rcompare_at (a b g : Nat) (ha : a < 256) (hb : b < 256) (hg : Hid (nCmp a b = g)) (w : World) :
    Calls Try.prog 28 #[.int .u8 (a : Int), .int .u8 (b : Int)] w fun e w' => e = .returned (.int .u8 (g : Int)) ∧ Below w.heap.size w w' := by
  have HM := Lib.hid (Own.start w)
  obtain ⟨v, hv⟩ : ∃ v, Hid (nSubV a b 0 = v) := ⟨_, rfl⟩
  obtain ⟨f, hf⟩ : ∃ f, Hid (nSubF a b 0 = f) := ⟨_, rfl⟩
  have f1 : f < 256 := by rw [← hf.out]; exact nSubF_lt _ _ _
  obtain ⟨s, z, y, h, x, p, n, c, ho⟩ : ∃ s z y h x p n c, Hid (nBit 128 f = s ∧ nBit 64 f = z ∧ nBit 32 f = y ∧ nBit 16 f = h ∧ nBit 8 f = x ∧ nBit 4 f = p ∧ nBit 2 f = n ∧ nBit 1 f = c) := ⟨_, _, _, _, _, _, _, _, rfl, rfl, rfl, rfl, rfl, rfl, rfl, rfl⟩
  have HG : Hid (nByte s z (nBit 32 b) h (nBit 8 b) p n c = g) := by
    show _ = _
    obtain ⟨rfl, rfl, rfl, rfl, rfl, rfl, rfl, rfl⟩ := ho.out
    rw [nByte_stray f b f1 hb, ← hg.out]; unfold nCmp; rw [hf.out]
  have q32 : ((b : Int) / 32 % 2 == 1) = nBit 32 b := bit_of b 32 _ (by omega)
  have q8 : ((b : Int) / 8 % 2 == 1) = nBit 8 b := bit_of b 8 _ (by omega)
  obtain ⟨y', hy⟩ : ∃ y', nBit 32 b = y' := ⟨_, rfl⟩
  obtain ⟨x', hx⟩ : ∃ x', nBit 8 b = x' := ⟨_, rfl⟩
  rw [hy] at q32 HG
  rw [hx] at q8 HG
  have tg1 : Hid True := trivial
  clear hg hy hx
  go_enter Try.func28, Try.ntmps28
  go_wp2_with (first
    | ((with_reducible apply own_box HM); exact rfl; (conv => lhs; whnf); exact rfl; exact rfl; (first | (clear tg1; intro w' g1 HM') | (clear tg2; intro w' g2 HM') | (clear tg3; intro w' g3 HM') | (clear tg4; intro w' g4 HM') | intro w' g' HM'); clear HM; have HM := HM'; clear HM'; all_goals skip) | ((with_reducible apply own_alloc HM); exact rfl; (first | (with_reducible exact zeroF)); exact rfl; (first | (clear tg1; intro w' g1 HM') | (clear tg2; intro w' g2 HM') | (clear tg3; intro w' g3 HM') | (clear tg4; intro w' g4 HM') | intro w' g' HM'); clear HM; have HM := HM'; clear HM'; all_goals skip) | ((with_reducible apply own_cell HM); exact rfl; exact rfl; (first | (with_reducible exact oneBool)); (first | with_reducible exact .z | with_reducible exact .s .z | with_reducible exact .s (.s .z) | with_reducible exact .s (.s (.s .z)) | with_reducible exact .s (.s (.s (.s .z))) | with_reducible exact .s (.s (.s (.s (.s .z))))); (focus repeat' (first | with_reducible exact .z | with_reducible apply Drop.s)); exact rfl; all_goals skip) | ((with_reducible apply own_load HM); exact rfl; exact rfl; (first | (with_reducible exact aggF)); (first | with_reducible exact .z | with_reducible exact .s .z | with_reducible exact .s (.s .z) | with_reducible exact .s (.s (.s .z)) | with_reducible exact .s (.s (.s (.s .z))) | with_reducible exact .s (.s (.s (.s (.s .z))))); (focus repeat' (first | with_reducible exact .z | with_reducible apply Drop.s)); (focus repeat' (first | with_reducible exact .z | with_reducible apply Take.s)); exact rfl; all_goals skip) | ((with_reducible apply own_store HM); exact rfl; exact rfl; (conv => lhs; whnf); exact rfl; (first | with_reducible exact .z | with_reducible exact .s .z | with_reducible exact .s (.s .z) | with_reducible exact .s (.s (.s .z)) | with_reducible exact .s (.s (.s (.s .z))) | with_reducible exact .s (.s (.s (.s (.s .z))))); (focus repeat' (first | with_reducible exact .z | with_reducible apply Over.p | with_reducible apply Over.s)); (first | with_reducible exact .z | with_reducible exact .s .z | with_reducible exact .s (.s .z) | with_reducible exact .s (.s (.s .z)) | with_reducible exact .s (.s (.s (.s .z))) | with_reducible exact .s (.s (.s (.s (.s .z))))); (first | (with_reducible exact (aggF).size) | (with_reducible exact (oneBool).size)); exact rfl; exact rfl; exact rfl; exact rfl; intro w' HM'; clear HM; have HM := HM'; clear HM'; all_goals skip)
    | (go_at_call 18; refine (rsub_at a b false v f ha hb hv hf _).mono ?_; rintro e w' ⟨rfl, hb⟩; have HM' := Lib.hid (HM.out.call hb); clear HM hb; have HM := HM'; clear HM')
    | (go_at_call 42; (with_reducible refine (of_to f s z y h x p n c f1 ho _).mono ?_); rintro e w' ⟨rfl, hb⟩; have HM' := Lib.hid (HM.out.call hb); clear HM hb; have HM := HM'; clear HM')
    | (go_at_call 21; (with_reducible refine (byte_at s z y' h x' p n c g HG _).mono ?_); rintro e w' ⟨rfl, hb⟩; have HM' := Lib.hid (HM.out.call hb); clear HM hb; have HM := HM'; clear HM'))
  go_ret
  exact ⟨rfl, Own.fin HM⟩

set_option maxHeartbeats 800000 in
theorem rinc_at (a f v g : Nat) (ha : a < 256) (hf : f < 256) (hv : Hid (nAddV a 1 0 = v)) (hg : Hid (nKeep (nAddF a 1 0) f = g)) (w : World) :
    Calls Try.prog 30 #[.int .u8 (a : Int), .int .u8 (f : Int)] w fun e w' => e = .returned (.tuple #[.int .u8 (v : Int), .int .u8 (g : Int)]) ∧ Below w.heap.size w w' := by
  have HM := Lib.hid (Own.start w)
  obtain ⟨l, hl⟩ : ∃ l, Hid (nAddF a 1 0 = l) := ⟨_, rfl⟩
  have l1 : l < 256 := by rw [← hl.out]; exact nAddF_lt _ _ _
  obtain ⟨s, z, y, h, x, p, n, c, ho⟩ : ∃ s z y h x p n c, Hid (nBit 128 l = s ∧ nBit 64 l = z ∧ nBit 32 l = y ∧ nBit 16 l = h ∧ nBit 8 l = x ∧ nBit 4 l = p ∧ nBit 2 l = n ∧ nBit 1 l = c) := ⟨_, _, _, _, _, _, _, _, rfl, rfl, rfl, rfl, rfl, rfl, rfl, rfl⟩
  have HG : Hid (nByte s z y h x p n (nBit 1 f) = g) := by
    show _ = _
    obtain ⟨rfl, rfl, rfl, rfl, rfl, rfl, rfl, rfl⟩ := ho.out
    rw [nByte_keep l f l1 hf, ← hg.out, hl.out]
  have q1 : ((f : Int) % 2 == 1) = nBit 1 f := bit_of f 1 _ (by omega)
  obtain ⟨c', hc⟩ : ∃ c', nBit 1 f = c' := ⟨_, rfl⟩
  rw [hc] at q1 HG
  have tg1 : Hid True := trivial
  clear hg hc
  go_enter Try.func30, Try.ntmps30
  go_wp2_with (first
    | ((with_reducible apply own_box HM); exact rfl; (conv => lhs; whnf); exact rfl; exact rfl; (first | (clear tg1; intro w' g1 HM') | (clear tg2; intro w' g2 HM') | (clear tg3; intro w' g3 HM') | (clear tg4; intro w' g4 HM') | intro w' g' HM'); clear HM; have HM := HM'; clear HM'; all_goals skip) | ((with_reducible apply own_alloc HM); exact rfl; (first | (with_reducible exact zeroF)); exact rfl; (first | (clear tg1; intro w' g1 HM') | (clear tg2; intro w' g2 HM') | (clear tg3; intro w' g3 HM') | (clear tg4; intro w' g4 HM') | intro w' g' HM'); clear HM; have HM := HM'; clear HM'; all_goals skip) | ((with_reducible apply own_cell HM); exact rfl; exact rfl; (first | (with_reducible exact oneBool)); (first | with_reducible exact .z | with_reducible exact .s .z | with_reducible exact .s (.s .z) | with_reducible exact .s (.s (.s .z)) | with_reducible exact .s (.s (.s (.s .z))) | with_reducible exact .s (.s (.s (.s (.s .z))))); (focus repeat' (first | with_reducible exact .z | with_reducible apply Drop.s)); exact rfl; all_goals skip) | ((with_reducible apply own_load HM); exact rfl; exact rfl; (first | (with_reducible exact aggF)); (first | with_reducible exact .z | with_reducible exact .s .z | with_reducible exact .s (.s .z) | with_reducible exact .s (.s (.s .z)) | with_reducible exact .s (.s (.s (.s .z))) | with_reducible exact .s (.s (.s (.s (.s .z))))); (focus repeat' (first | with_reducible exact .z | with_reducible apply Drop.s)); (focus repeat' (first | with_reducible exact .z | with_reducible apply Take.s)); exact rfl; all_goals skip) | ((with_reducible apply own_store HM); exact rfl; exact rfl; (conv => lhs; whnf); exact rfl; (first | with_reducible exact .z | with_reducible exact .s .z | with_reducible exact .s (.s .z) | with_reducible exact .s (.s (.s .z)) | with_reducible exact .s (.s (.s (.s .z))) | with_reducible exact .s (.s (.s (.s (.s .z))))); (focus repeat' (first | with_reducible exact .z | with_reducible apply Over.p | with_reducible apply Over.s)); (first | with_reducible exact .z | with_reducible exact .s .z | with_reducible exact .s (.s .z) | with_reducible exact .s (.s (.s .z)) | with_reducible exact .s (.s (.s (.s .z))) | with_reducible exact .s (.s (.s (.s (.s .z))))); (first | (with_reducible exact (aggF).size) | (with_reducible exact (oneBool).size)); exact rfl; exact rfl; exact rfl; exact rfl; intro w' HM'; clear HM; have HM := HM'; clear HM'; all_goals skip)
    | (go_at_call 17; refine (radd_at a 1 false v l ha (by omega) hv hl _).mono ?_; rintro e w' ⟨rfl, hb⟩; have HM' := Lib.hid (HM.out.call hb); clear HM hb; have HM := HM'; clear HM')
    | (go_at_call 42; (with_reducible refine (of_to l s z y h x p n c l1 ho _).mono ?_); rintro e w' ⟨rfl, hb⟩; have HM' := Lib.hid (HM.out.call hb); clear HM hb; have HM := HM'; clear HM')
    | (go_at_call 21; (with_reducible refine (byte_at s z y h x p n c' g HG _).mono ?_); rintro e w' ⟨rfl, hb⟩; have HM' := Lib.hid (HM.out.call hb); clear HM hb; have HM := HM'; clear HM'))
  go_ret2
  exact ⟨pair_eq rfl rfl, Own.fin HM⟩

set_option maxHeartbeats 800000 in
theorem rdec_at (a f v g : Nat) (ha : a < 256) (hf : f < 256) (hv : Hid (nSubV a 1 0 = v)) (hg : Hid (nKeep (nSubF a 1 0) f = g)) (w : World) :
    Calls Try.prog 32 #[.int .u8 (a : Int), .int .u8 (f : Int)] w fun e w' => e = .returned (.tuple #[.int .u8 (v : Int), .int .u8 (g : Int)]) ∧ Below w.heap.size w w' := by
  have HM := Lib.hid (Own.start w)
  obtain ⟨l, hl⟩ : ∃ l, Hid (nSubF a 1 0 = l) := ⟨_, rfl⟩
  have l1 : l < 256 := by rw [← hl.out]; exact nSubF_lt _ _ _
  obtain ⟨s, z, y, h, x, p, n, c, ho⟩ : ∃ s z y h x p n c, Hid (nBit 128 l = s ∧ nBit 64 l = z ∧ nBit 32 l = y ∧ nBit 16 l = h ∧ nBit 8 l = x ∧ nBit 4 l = p ∧ nBit 2 l = n ∧ nBit 1 l = c) := ⟨_, _, _, _, _, _, _, _, rfl, rfl, rfl, rfl, rfl, rfl, rfl, rfl⟩
  have HG : Hid (nByte s z y h x p n (nBit 1 f) = g) := by
    show _ = _
    obtain ⟨rfl, rfl, rfl, rfl, rfl, rfl, rfl, rfl⟩ := ho.out
    rw [nByte_keep l f l1 hf, ← hg.out, hl.out]
  have q1 : ((f : Int) % 2 == 1) = nBit 1 f := bit_of f 1 _ (by omega)
  obtain ⟨c', hc⟩ : ∃ c', nBit 1 f = c' := ⟨_, rfl⟩
  rw [hc] at q1 HG
  have tg1 : Hid True := trivial
  clear hg hc
  go_enter Try.func32, Try.ntmps32
  go_wp2_with (first
    | ((with_reducible apply own_box HM); exact rfl; (conv => lhs; whnf); exact rfl; exact rfl; (first | (clear tg1; intro w' g1 HM') | (clear tg2; intro w' g2 HM') | (clear tg3; intro w' g3 HM') | (clear tg4; intro w' g4 HM') | intro w' g' HM'); clear HM; have HM := HM'; clear HM'; all_goals skip) | ((with_reducible apply own_alloc HM); exact rfl; (first | (with_reducible exact zeroF)); exact rfl; (first | (clear tg1; intro w' g1 HM') | (clear tg2; intro w' g2 HM') | (clear tg3; intro w' g3 HM') | (clear tg4; intro w' g4 HM') | intro w' g' HM'); clear HM; have HM := HM'; clear HM'; all_goals skip) | ((with_reducible apply own_cell HM); exact rfl; exact rfl; (first | (with_reducible exact oneBool)); (first | with_reducible exact .z | with_reducible exact .s .z | with_reducible exact .s (.s .z) | with_reducible exact .s (.s (.s .z)) | with_reducible exact .s (.s (.s (.s .z))) | with_reducible exact .s (.s (.s (.s (.s .z))))); (focus repeat' (first | with_reducible exact .z | with_reducible apply Drop.s)); exact rfl; all_goals skip) | ((with_reducible apply own_load HM); exact rfl; exact rfl; (first | (with_reducible exact aggF)); (first | with_reducible exact .z | with_reducible exact .s .z | with_reducible exact .s (.s .z) | with_reducible exact .s (.s (.s .z)) | with_reducible exact .s (.s (.s (.s .z))) | with_reducible exact .s (.s (.s (.s (.s .z))))); (focus repeat' (first | with_reducible exact .z | with_reducible apply Drop.s)); (focus repeat' (first | with_reducible exact .z | with_reducible apply Take.s)); exact rfl; all_goals skip) | ((with_reducible apply own_store HM); exact rfl; exact rfl; (conv => lhs; whnf); exact rfl; (first | with_reducible exact .z | with_reducible exact .s .z | with_reducible exact .s (.s .z) | with_reducible exact .s (.s (.s .z)) | with_reducible exact .s (.s (.s (.s .z))) | with_reducible exact .s (.s (.s (.s (.s .z))))); (focus repeat' (first | with_reducible exact .z | with_reducible apply Over.p | with_reducible apply Over.s)); (first | with_reducible exact .z | with_reducible exact .s .z | with_reducible exact .s (.s .z) | with_reducible exact .s (.s (.s .z)) | with_reducible exact .s (.s (.s (.s .z))) | with_reducible exact .s (.s (.s (.s (.s .z))))); (first | (with_reducible exact (aggF).size) | (with_reducible exact (oneBool).size)); exact rfl; exact rfl; exact rfl; exact rfl; intro w' HM'; clear HM; have HM := HM'; clear HM'; all_goals skip)
    | (go_at_call 18; refine (rsub_at a 1 false v l ha (by omega) hv hl _).mono ?_; rintro e w' ⟨rfl, hb⟩; have HM' := Lib.hid (HM.out.call hb); clear HM hb; have HM := HM'; clear HM')
    | (go_at_call 42; (with_reducible refine (of_to l s z y h x p n c l1 ho _).mono ?_); rintro e w' ⟨rfl, hb⟩; have HM' := Lib.hid (HM.out.call hb); clear HM hb; have HM := HM'; clear HM')
    | (go_at_call 21; (with_reducible refine (byte_at s z y h x p n c' g HG _).mono ?_); rintro e w' ⟨rfl, hb⟩; have HM' := Lib.hid (HM.out.call hb); clear HM hb; have HM := HM'; clear HM'))
  go_ret2
  exact ⟨pair_eq rfl rfl, Own.fin HM⟩

end Go.Proofs.Ythjjdpelddboeaa
