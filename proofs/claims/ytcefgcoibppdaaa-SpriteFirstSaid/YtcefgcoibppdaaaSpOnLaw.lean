/-
  The law SpriteOn returns true.
-/
import Derived.Test.YtcefgcoibppdaaaSpAlive
import Derived.Test.YtcefgcoibppdaaaSpGreat
import Derived.Test.YtcefgcoibppdaaaSpOn
import Derived.Test.YtcefgcoibppdaaaMinQuiet
import Derived.Test.YtcefgcoibppdaaaOldRow
namespace Go.Proofs.Ytcefgcoibppdaaa
open Go.RowKit

set_option maxRecDepth 100000 in
set_option maxHeartbeats 1600000 in
theorem on_law_o0 (a1 a2 : Option Addr) (n1 c1 n2 c2 : Nat) (r0 r1 r2 r3 r4 r5 r6 r7 r8 r9 r10 : Nat) (line : Int) (w : World) (l1 : 64 < n1) :
    Calls Try.prog 4 #[.agg #[.slice a1 n1 c1, .slice a2 n2 c2], regsV r0 r1 r2 r3 r4 r5 r6 r7 r8 r9 r10, .int .i64 line] w fun e w' => e = .returned (.bool true) ∧ Below w.heap.size w w' := by
  have HM := Lib.hid (Own.start w)
  have tg1 : Hid True := trivial
  have tg2 : Hid True := trivial
  have L1 := Lib.hid l1
  clear l1
  skip
  go_enter Try.func4, Try.ntmps4
  go_wp2_with (first | ((with_reducible apply own_box HM); exact rfl; (conv => lhs; whnf); exact rfl; exact rfl; (first | (clear tg1; intro w' g1 HM') | (clear tg2; intro w' g2 HM') | (clear tg3; intro w' g3 HM') | (clear tg4; intro w' g4 HM') | intro w' g' HM'); clear HM; have HM := HM'; clear HM'; all_goals skip) | ((with_reducible apply own_cell HM); exact rfl; exact rfl; (first | (with_reducible exact oneInt) | (with_reducible exact oneBool) | (with_reducible exact oneU8) | (with_reducible exact oneBs) | (with_reducible exact oneTs)); (first | with_reducible exact .z | with_reducible exact .s .z | with_reducible exact .s (.s .z) | with_reducible exact .s (.s (.s .z)) | with_reducible exact .s (.s (.s (.s .z))) | with_reducible exact .s (.s (.s (.s (.s .z))))); (focus repeat' (first | with_reducible exact .z | with_reducible apply Drop.s)); exact rfl; all_goals skip) | ((with_reducible apply own_load HM); exact rfl; exact rfl; (first | (with_reducible exact aggP) | (with_reducible exact agg11)); (first | with_reducible exact .z | with_reducible exact .s .z | with_reducible exact .s (.s .z) | with_reducible exact .s (.s (.s .z)) | with_reducible exact .s (.s (.s (.s .z))) | with_reducible exact .s (.s (.s (.s (.s .z))))); (focus repeat' (first | with_reducible exact .z | with_reducible apply Drop.s)); (focus repeat' (first | with_reducible exact .z | with_reducible apply Take.s)); exact rfl; all_goals skip) | ((with_reducible apply own_store HM); exact rfl; exact rfl; (conv => lhs; whnf); exact rfl; (first | with_reducible exact .z | with_reducible exact .s .z | with_reducible exact .s (.s .z) | with_reducible exact .s (.s (.s .z)) | with_reducible exact .s (.s (.s (.s .z))) | with_reducible exact .s (.s (.s (.s (.s .z))))); (focus repeat' (first | with_reducible exact .z | with_reducible apply Over.p | with_reducible apply Over.s)); (first | with_reducible exact .z | with_reducible exact .s .z | with_reducible exact .s (.s .z) | with_reducible exact .s (.s (.s .z)) | with_reducible exact .s (.s (.s (.s .z))) | with_reducible exact .s (.s (.s (.s (.s .z))))); (first | (with_reducible exact (aggP).size) | (with_reducible exact (agg11).size) | (with_reducible exact (oneInt).size) | (with_reducible exact (oneBool).size) | (with_reducible exact (oneU8).size) | (with_reducible exact (oneBs).size) | (with_reducible exact (oneTs).size)); exact rfl; exact rfl; exact rfl; exact rfl; intro w' HM'; clear HM; have HM := HM'; clear HM'; all_goals skip) | (go_at_call 9; (with_reducible refine (alive_any _).mono ?_); rintro e w' ⟨rfl, hb⟩; have HM' := Lib.hid (HM.out.call hb); clear HM hb; have HM := HM'; clear HM') | (go_at_call 11; (with_reducible refine (great_0 a1 a2 n1 c1 n2 c2 _ L1.out).mono ?_); rintro e w' ⟨rfl, hb⟩; have HM' := Lib.hid (HM.out.call hb); clear HM hb; have HM := HM'; clear HM'))
  go_ret
  exact ⟨rfl, Own.fin HM⟩

set_option maxRecDepth 100000 in
set_option maxHeartbeats 1600000 in
theorem on_law_o1 (a1 a2 : Option Addr) (n1 c1 n2 c2 : Nat) (r0 r1 r2 r3 r4 r5 r6 r7 r8 r9 r10 : Nat) (line : Int) (w : World) (l1 : n1 ≤ 64) (l2 : 300 < n2) :
    Calls Try.prog 4 #[.agg #[.slice a1 n1 c1, .slice a2 n2 c2], regsV r0 r1 r2 r3 r4 r5 r6 r7 r8 r9 r10, .int .i64 line] w fun e w' => e = .returned (.bool true) ∧ Below w.heap.size w w' := by
  have HM := Lib.hid (Own.start w)
  have tg1 : Hid True := trivial
  have tg2 : Hid True := trivial
  have L1 := Lib.hid l1
  have L2 := Lib.hid l2
  clear l1 l2
  go_enter Try.func4, Try.ntmps4
  go_wp2_with (first | ((with_reducible apply own_box HM); exact rfl; (conv => lhs; whnf); exact rfl; exact rfl; (first | (clear tg1; intro w' g1 HM') | (clear tg2; intro w' g2 HM') | (clear tg3; intro w' g3 HM') | (clear tg4; intro w' g4 HM') | intro w' g' HM'); clear HM; have HM := HM'; clear HM'; all_goals skip) | ((with_reducible apply own_cell HM); exact rfl; exact rfl; (first | (with_reducible exact oneInt) | (with_reducible exact oneBool) | (with_reducible exact oneU8) | (with_reducible exact oneBs) | (with_reducible exact oneTs)); (first | with_reducible exact .z | with_reducible exact .s .z | with_reducible exact .s (.s .z) | with_reducible exact .s (.s (.s .z)) | with_reducible exact .s (.s (.s (.s .z))) | with_reducible exact .s (.s (.s (.s (.s .z))))); (focus repeat' (first | with_reducible exact .z | with_reducible apply Drop.s)); exact rfl; all_goals skip) | ((with_reducible apply own_load HM); exact rfl; exact rfl; (first | (with_reducible exact aggP) | (with_reducible exact agg11)); (first | with_reducible exact .z | with_reducible exact .s .z | with_reducible exact .s (.s .z) | with_reducible exact .s (.s (.s .z)) | with_reducible exact .s (.s (.s (.s .z))) | with_reducible exact .s (.s (.s (.s (.s .z))))); (focus repeat' (first | with_reducible exact .z | with_reducible apply Drop.s)); (focus repeat' (first | with_reducible exact .z | with_reducible apply Take.s)); exact rfl; all_goals skip) | ((with_reducible apply own_store HM); exact rfl; exact rfl; (conv => lhs; whnf); exact rfl; (first | with_reducible exact .z | with_reducible exact .s .z | with_reducible exact .s (.s .z) | with_reducible exact .s (.s (.s .z)) | with_reducible exact .s (.s (.s (.s .z))) | with_reducible exact .s (.s (.s (.s (.s .z))))); (focus repeat' (first | with_reducible exact .z | with_reducible apply Over.p | with_reducible apply Over.s)); (first | with_reducible exact .z | with_reducible exact .s .z | with_reducible exact .s (.s .z) | with_reducible exact .s (.s (.s .z)) | with_reducible exact .s (.s (.s (.s .z))) | with_reducible exact .s (.s (.s (.s (.s .z))))); (first | (with_reducible exact (aggP).size) | (with_reducible exact (agg11).size) | (with_reducible exact (oneInt).size) | (with_reducible exact (oneBool).size) | (with_reducible exact (oneU8).size) | (with_reducible exact (oneBs).size) | (with_reducible exact (oneTs).size)); exact rfl; exact rfl; exact rfl; exact rfl; intro w' HM'; clear HM; have HM := HM'; clear HM'; all_goals skip) | (go_at_call 9; (with_reducible refine (alive_any _).mono ?_); rintro e w' ⟨rfl, hb⟩; have HM' := Lib.hid (HM.out.call hb); clear HM hb; have HM := HM'; clear HM') | (go_at_call 11; (with_reducible refine (great_1 a1 a2 n1 c1 n2 c2 _ L1.out L2.out).mono ?_); rintro e w' ⟨rfl, hb⟩; have HM' := Lib.hid (HM.out.call hb); clear HM hb; have HM := HM'; clear HM'))
  go_ret
  exact ⟨rfl, Own.fin HM⟩

theorem sp_lt {w : World} {a : Option Addr} {n : Nat} {sp : Nat → Nat → Nat} (h : TriRow w a n sp) : ∀ i, i < n → ∀ k, k < 3 → sp i k < 256 := fun i hi k hk => by
  obtain ⟨_, _, _, _, hc⟩ := h (by omega)
  exact (hc i hi k hk).2
theorem tl_lt {w : World} {a : Option Addr} {n : Nat} {tl : Nat → Nat} (h : ByteRow w a n tl) : ∀ i, i < n → tl i < 256 := fun i hi => by
  obtain ⟨_, _, _, _, hc⟩ := h (by omega)
  exact (hc i hi).2
theorem rowN_num {w : World} {B : Nat} {R : List (Nat × TypeId × List Value)} {v : Value} {t : TypeId} {L : List Nat} (h : RowN 1 t R v L.length (nts L)) (hW : ∀ x ∈ R, B ≤ x.1 ∧ Whole w x.1 x.2.1 x.2.2) : ∃ p c, v = .slice p L.length c ∧ NumRow w p L := by
  obtain ⟨_, ⟨rfl, rfl, h0⟩ | ⟨g, cap, cur, rfl, rfl, h1, h2, h3, h4⟩⟩ := h
  · exact ⟨none, 0, by rw [h0], fun hn => by omega⟩
  · refine ⟨_, cap, rfl, fun _ => ⟨g, 0, rfl, (hW (g, t, cur) (by simp)).2.inside, fun i x hx => ?_⟩⟩
    rw [Nat.zero_add, (hW (g, t, cur) (by simp)).2.at_]
    have hi : i < L.length := (List.getElem?_eq_some_iff.1 hx).1
    have e1 : (cur.take (L.length * 1))[i]? = cur[i]? := by rw [List.getElem?_take, if_pos (by omega)]
    rw [← e1, h4]
    exact nts_get L i x hx
theorem ron_num (a : Option Addr) (n cap : Nat) (xs : Nat → Nat) (r0 r1 r2 r3 r4 r5 r6 r7 r8 r9 r10 : Nat) (line : Int) (b1 : r1 < 256) (b5 : r5 < 256) (l0 : 0 ≤ line) (l1 : line ≤ 191) (L : List Nat) (hL : Hid (spL n xs r1 r5 line = L)) (w : World) (hV : ByteRow w a n xs) :
    Calls Try.prog 13 #[.slice a n cap, regsV r0 r1 r2 r3 r4 r5 r6 r7 r8 r9 r10, .int .i64 line] w fun e w' => ∃ p c, e = .returned (.slice p L.length c) ∧ NumRow w' p L ∧ Below w.heap.size w w' :=
  (ron_at a n cap xs r0 r1 r2 r3 r4 r5 r6 r7 r8 r9 r10 line b1 b5 l0 l1 L hL w hV).mono fun e w' ⟨v, R, h1, h2, h3, h4⟩ => by
    obtain ⟨p, c, rfl, hp⟩ := rowN_num h2 h3
    exact ⟨p, c, h1, hp, h4⟩
theorem ron_n (a : Option Addr) (n cap : Nat) (xs : Nat → Nat) (r0 r1 r2 r3 r4 r5 r6 r7 r8 r9 r10 : Nat) (line : Int) (b1 : r1 < 256) (b5 : r5 < 256) (l0 : 0 ≤ line) (l1 : line ≤ 191) (L : List Nat) (k : Nat) (hL : Hid (spL n xs r1 r5 line = L)) (hk : Hid (L.length = k)) (w : World) (hV : ByteRow w a n xs) :
    Calls Try.prog 13 #[.slice a n cap, regsV r0 r1 r2 r3 r4 r5 r6 r7 r8 r9 r10, .int .i64 line] w fun e w' => ∃ p c, e = .returned (.slice p k c) ∧ NumRow w' p L ∧ Below w.heap.size w w' := by
  obtain rfl : L.length = k := hk.out
  exact ron_num a n cap xs r0 r1 r2 r3 r4 r5 r6 r7 r8 r9 r10 line b1 b5 l0 l1 L hL w hV
theorem on_k (a : Option Addr) (n cap : Nat) (xs : Nat → Nat) (r0 r1 r2 r3 r4 r5 r6 r7 r8 r9 r10 : Nat) (line : Int) (b1 : r1 < 256) (b5 : r5 < 256) (l0 : 0 ≤ line) (l1 : line ≤ 191) (L : List Nat) (k : Nat) (m : Bool) (hL : Hid (spL n xs r1 r5 line = L)) (hk : Hid ((L.take 8).length = k)) (hm : Hid (decide (8 < L.length) = m)) (w : World) (hV : ByteRow w a n xs) :
    Calls Try.prog 8 #[.slice a n cap, regsV r0 r1 r2 r3 r4 r5 r6 r7 r8 r9 r10, .int .i64 line] w fun e w' => ∃ p c, e = .returned (.tuple #[.slice p k c, .bool m]) ∧ NumRow w' p (L.take 8) ∧ Below w.heap.size w w' := by
  obtain rfl : (L.take 8).length = k := hk.out
  obtain rfl : decide (8 < L.length) = m := hm.out
  exact on_in a n cap xs r0 r1 r2 r3 r4 r5 r6 r7 r8 r9 r10 line b1 b5 l0 l1 L hL w hV
set_option maxRecDepth 100000 in
set_option maxHeartbeats 6400000 in
theorem on_law_in (a1 a2 : Option Addr) (n1 c1 n2 c2 : Nat) (sp : Nat → Nat → Nat) (tl : Nat → Nat) (r0 r1 r2 r3 r4 r5 r6 r7 r8 r9 r10 : Nat) (line : Int) (b1 : r1 < 256) (b5 : r5 < 256) (l0 : 0 ≤ line) (ln1 : line ≤ 191) (w : World) (h1 : TriRow w a1 n1 sp) (h2 : ByteRow w a2 n2 tl) (l1 : n1 ≤ 64) (l2 : n2 ≤ 300) :
    Calls Try.prog 4 #[.agg #[.slice a1 n1 c1, .slice a2 n2 c2], regsV r0 r1 r2 r3 r4 r5 r6 r7 r8 r9 r10, .int .i64 line] w fun e w' => e = .returned (.bool true) ∧ Below w.heap.size w w' := by
  have HM := Lib.hid (Own.start w)
  have tg1 : Hid True := trivial
  have tg2 : Hid True := trivial
  have L1 := Lib.hid l1
  have L2 := Lib.hid l2
  have HT1 := Lib.hid h1
  have HT2 := Lib.hid h2
  have H1 := Lib.hid b1
  have H5 := Lib.hid b5
  have HL0 := Lib.hid l0
  have HL1 := Lib.hid ln1
  obtain ⟨b, HB5⟩ : ∃ b, Hid (spBase r5 = b) := ⟨_, rfl⟩
  obtain ⟨T, hT⟩ : ∃ T, Hid (bTile tl n2 = T) := ⟨_, rfl⟩
  obtain ⟨ys, hys⟩ : ∃ ys, Hid (bMem T b sp n1 = ys) := ⟨_, rfl⟩
  have HY : Hid (∀ i, ys i < 256) := Lib.hid (by rw [← hys.out]; exact bMem_lt (by rw [← hT.out]; exact bTile_lt (tl_lt h2)) (sp_lt h1))
  obtain ⟨L, hL⟩ : ∃ L, Hid (spL 16384 ys r1 r5 line = L) := ⟨_, rfl⟩
  obtain ⟨k, hk⟩ : ∃ k, (L.take 8).length = k := ⟨_, rfl⟩
  obtain ⟨h, hh⟩ : ∃ h, Hid (spH r1 = h) := ⟨_, rfl⟩
  have HK : Hid (k = min L.length 8) := Lib.hid (by rw [← hk, List.length_take]; omega)
  have HLL : Hid (L.length ≤ 64) := Lib.hid (by rw [← hL.out]; exact spFrom_le _ _ _ _ _)
  have HKI : Hid ((k : Int) = min (L.length : Int) 8) := Lib.hid (by have := HK.out; omega)
  clear l1 l2 h1 h2 b1 b5 l0 ln1
  go_enter Try.func4, Try.ntmps4
  go_upto_region 6 with (first | ((with_reducible apply own_box HM); exact rfl; (conv => lhs; whnf); exact rfl; exact rfl; (first | (clear tg1; intro w' g1 HM') | (clear tg2; intro w' g2 HM') | (clear tg3; intro w' g3 HM') | (clear tg4; intro w' g4 HM') | intro w' g' HM'); clear HM; have HM := HM'; clear HM'; all_goals skip) | ((with_reducible apply own_cell HM); exact rfl; exact rfl; (first | (with_reducible exact oneInt) | (with_reducible exact oneBool) | (with_reducible exact oneU8) | (with_reducible exact oneBs) | (with_reducible exact oneTs)); (first | with_reducible exact .z | with_reducible exact .s .z | with_reducible exact .s (.s .z) | with_reducible exact .s (.s (.s .z)) | with_reducible exact .s (.s (.s (.s .z))) | with_reducible exact .s (.s (.s (.s (.s .z))))); (focus repeat' (first | with_reducible exact .z | with_reducible apply Drop.s)); exact rfl; all_goals skip) | ((with_reducible apply own_load HM); exact rfl; exact rfl; (first | (with_reducible exact aggP) | (with_reducible exact agg11)); (first | with_reducible exact .z | with_reducible exact .s .z | with_reducible exact .s (.s .z) | with_reducible exact .s (.s (.s .z)) | with_reducible exact .s (.s (.s (.s .z))) | with_reducible exact .s (.s (.s (.s (.s .z))))); (focus repeat' (first | with_reducible exact .z | with_reducible apply Drop.s)); (focus repeat' (first | with_reducible exact .z | with_reducible apply Take.s)); exact rfl; all_goals skip) | ((with_reducible apply own_store HM); exact rfl; exact rfl; (conv => lhs; whnf); exact rfl; (first | with_reducible exact .z | with_reducible exact .s .z | with_reducible exact .s (.s .z) | with_reducible exact .s (.s (.s .z)) | with_reducible exact .s (.s (.s (.s .z))) | with_reducible exact .s (.s (.s (.s (.s .z))))); (focus repeat' (first | with_reducible exact .z | with_reducible apply Over.p | with_reducible apply Over.s)); (first | with_reducible exact .z | with_reducible exact .s .z | with_reducible exact .s (.s .z) | with_reducible exact .s (.s (.s .z)) | with_reducible exact .s (.s (.s (.s .z))) | with_reducible exact .s (.s (.s (.s (.s .z))))); (first | (with_reducible exact (aggP).size) | (with_reducible exact (agg11).size) | (with_reducible exact (oneInt).size) | (with_reducible exact (oneBool).size) | (with_reducible exact (oneU8).size) | (with_reducible exact (oneBs).size) | (with_reducible exact (oneTs).size)); exact rfl; exact rfl; exact rfl; exact rfl; intro w' HM'; clear HM; have HM := HM'; clear HM'; all_goals skip) | (go_at_call 9; (with_reducible refine (alive_any _).mono ?_); rintro e w' ⟨rfl, hb⟩; have HM' := Lib.hid (HM.out.call hb); clear HM hb; have HM := HM'; clear HM') | (go_at_call 11; (with_reducible refine (great_2 a1 a2 n1 c1 n2 c2 _ L1.out L2.out).mono ?_); rintro e w' ⟨rfl, hb⟩; have HM' := Lib.hid (HM.out.call hb); clear HM hb; have HM := HM'; clear HM') | (go_at_call 12; (with_reducible refine (build_any a1 a2 n1 c1 n2 c2 sp tl r0 r1 r2 r3 r4 r5 r6 r7 r8 r9 r10 b H5.out HB5 _ (HT1.out.under (Own.fin HM)) (HT2.out.under (Own.fin HM)) L1.out L2.out T hT).mono ?_); rintro e w' ⟨gv, rfl, hg, hW, hb⟩; have HM' := Lib.hid (HM.out.plus hb hg hW); clear HM hb hg hW; have HM := HM'; clear HM'))
  rw [hys.out] at HM
  obtain ⟨n, hn⟩ : ∃ n, Hid (L.length = n) := ⟨_, rfl⟩
  obtain ⟨m, hm⟩ : ∃ m, Hid (decide (8 < L.length) = m) := ⟨_, rfl⟩
  have hk' := Lib.hid hk
  clear hk
  go_upto_region 8 with (first | ((with_reducible apply own_box HM); exact rfl; (conv => lhs; whnf); exact rfl; exact rfl; (first | (clear tg1; intro w' g1 HM') | (clear tg2; intro w' g2 HM') | (clear tg3; intro w' g3 HM') | (clear tg4; intro w' g4 HM') | intro w' g' HM'); clear HM; have HM := HM'; clear HM'; all_goals skip) | ((with_reducible apply own_cell HM); exact rfl; exact rfl; (first | (with_reducible exact oneInt) | (with_reducible exact oneBool) | (with_reducible exact oneU8) | (with_reducible exact oneBs) | (with_reducible exact oneTs)); (first | with_reducible exact .z | with_reducible exact .s .z | with_reducible exact .s (.s .z) | with_reducible exact .s (.s (.s .z)) | with_reducible exact .s (.s (.s (.s .z))) | with_reducible exact .s (.s (.s (.s (.s .z))))); (focus repeat' (first | with_reducible exact .z | with_reducible apply Drop.s)); exact rfl; all_goals skip) | ((with_reducible apply own_load HM); exact rfl; exact rfl; (first | (with_reducible exact aggP) | (with_reducible exact agg11)); (first | with_reducible exact .z | with_reducible exact .s .z | with_reducible exact .s (.s .z) | with_reducible exact .s (.s (.s .z)) | with_reducible exact .s (.s (.s (.s .z))) | with_reducible exact .s (.s (.s (.s (.s .z))))); (focus repeat' (first | with_reducible exact .z | with_reducible apply Drop.s)); (focus repeat' (first | with_reducible exact .z | with_reducible apply Take.s)); exact rfl; all_goals skip) | ((with_reducible apply own_store HM); exact rfl; exact rfl; (conv => lhs; whnf); exact rfl; (first | with_reducible exact .z | with_reducible exact .s .z | with_reducible exact .s (.s .z) | with_reducible exact .s (.s (.s .z)) | with_reducible exact .s (.s (.s (.s .z))) | with_reducible exact .s (.s (.s (.s (.s .z))))); (focus repeat' (first | with_reducible exact .z | with_reducible apply Over.p | with_reducible apply Over.s)); (first | with_reducible exact .z | with_reducible exact .s .z | with_reducible exact .s (.s .z) | with_reducible exact .s (.s (.s .z)) | with_reducible exact .s (.s (.s (.s .z))) | with_reducible exact .s (.s (.s (.s (.s .z))))); (first | (with_reducible exact (aggP).size) | (with_reducible exact (agg11).size) | (with_reducible exact (oneInt).size) | (with_reducible exact (oneBool).size) | (with_reducible exact (oneU8).size) | (with_reducible exact (oneBs).size) | (with_reducible exact (oneTs).size)); exact rfl; exact rfl; exact rfl; exact rfl; intro w' HM'; clear HM; have HM := HM'; clear HM'; all_goals skip) | (go_at_call 8; (with_reducible refine (on_k _ 16384 16384 ys r0 r1 r2 r3 r4 r5 r6 r7 r8 r9 r10 line H1.out H5.out HL0.out HL1.out L k m hL hk' hm _ (HM.out.byteRow .z HY.out)).mono ?_); rintro e w' ⟨p, cp, rfl, HN1, hb⟩; have HM' := Lib.hid (HM.out.call hb); clear HM hb; have HM := HM'; clear HM') | (go_at_call 13; (with_reducible refine (ron_n _ 16384 16384 ys r0 r1 r2 r3 r4 r5 r6 r7 r8 r9 r10 line H1.out H5.out HL0.out HL1.out L n hL hn _ (HM.out.byteRow .z HY.out)).mono ?_); rintro e w2 ⟨p2, cp2, rfl, HN2, hb⟩; have HN1' := Lib.hid (NumRow.under HN1 hb); have HM' := Lib.hid (HM.out.call hb); clear HM hb HN1; have HM := HM'; clear HM'))
  have HN2' := Lib.hid HN2
  clear HN2
  have nb : (n : Int) ≤ 64 := by have := HLL.out; rw [hn.out] at this; omega
  have kb : (k : Int) ≤ 8 := by have := HK.out; omega
  have HMIN : Hid ((k : Int) = min (n : Int) 8) := Lib.hid (by rw [HKI.out, hn.out])
  have HCR : Hid (∀ (j : Nat) (v : Value), ([.int .u8 (r0 : Int), .int .u8 (r1 : Int), .int .u8 (r2 : Int), .int .u8 (r3 : Int), .int .u8 (r4 : Int), .int .u8 (r5 : Int), .int .u8 (r6 : Int), .int .u8 (r7 : Int), .int .u8 (r8 : Int), .int .u8 (r9 : Int), .int .u8 (r10 : Int)] : List Value)[j]? = some v → w2.cell? ⟨g2, j, none⟩ = some v) := Lib.hid fun j v hv => by rw [(HM.out.at_ (.s .z)).at_]; exact hv
  have HM0 := HM
  clear HM
  have HM := Lib.hid (Own.start w2)
  by_cases h8 : 8 < n
  all_goals
    have em := hm.out
    rw [hn.out] at em
    simp only [h8, decide_true, decide_false] at em
    subst em
    have K8 : ((8 : Int) < (n : Int)) = (8 < n) := by rw [eq_iff_iff]; omega
    first
      | (have K9 := K8.trans (eq_true h8))
      | (have K9 := K8.trans (eq_false h8))
    clear K8 h8
    (refine own_region HM (by kernel_rfl) (by kernel_rfl) ?_; (try simp only [Act.put, List.setIfInBounds_toArray, List.set_cons_zero, List.set_cons_succ]); repeat ((fail_if_success (with_reducible refine wpQuiet_nil ?_)); first | go_big_quiet_skip | (go_big_quiet_want; first | ((with_reducible apply quiet_oldwhole); exact rfl; (with_reducible exact agg11); exact HCR.out; exact rfl; go_big_quiet_op; go_big_quiet_on) | ((with_reducible apply quiet_min); exact rfl; exact rfl; (exact HMIN.out); go_big_quiet_op; go_big_quiet_on) | (go_big_quiet_op; go_big_quiet_on) | ((with_reducible apply quiet_call); exact fun w => rfl; (focus (go_simp; all_goals with_reducible rfl)); (intro wq HQ; first | (with_reducible exact height_at r0 r1 r2 r3 r4 r5 r6 r7 r8 r9 r10 H1.out h hh _) | (with_reducible exact rheight_at r0 r1 r2 r3 r4 r5 r6 r7 r8 r9 r10 H1.out h hh _)); go_big_quiet_op; go_big_quiet_on) | (go_big_quiet_op; go_big_quiet_on) | (go_big_quiet_op; refine ⟨_, fun _ _ => rfl, ?_⟩; go_big_quiet_on))))
    refine wpQuiet_nil ?_
    intro w' HM'
    clear HM; have HM := HM'; clear HM'
    clear K9
    go_upto_region 11 with fail
    go_loopw [52] (fun i wr => ∃ j : Nat, j ≤ k ∧ i = .int .i64 (j : Int) ∧ Hid (Own w2 wr [])) (fun i _ => k - (intOf i).toNat)
    case atStart => exact ⟨0, by omega, rfl, HM⟩
    case round =>
      clear HM
      obtain ⟨j, hj, rfl, HM⟩ := hrel
      by_cases hlt : j < k
      · have hlt' : (j : Int) < (k : Int) := by omega
        have HJ := Lib.hid hlt
        have hjn : (j : Int) < (n : Int) := by have := HMIN.out; omega
        have hkl : j < (L.take 8).length := by rw [hk'.out]; exact hlt
        obtain ⟨gn, on_, rfl, hgn, hcn⟩ := HN1'.out (by omega)
        obtain ⟨gm, om_, rfl, hgm, hcm⟩ := HN2'.out (by rw [List.length_take] at hkl; omega)
        obtain ⟨x, hx⟩ : ∃ x, (L.take 8)[j]? = some x := ⟨_, List.getElem?_eq_getElem hkl⟩
        have HC1 := Lib.hid (hcn j x hx)
        have HC2 := Lib.hid (hcm j x (by rw [List.getElem?_take] at hx; split at hx; exact hx; cases hx))
        clear hgn hcn hgm hcm hx hkl hlt hj
        go_upto_region 13 with fail
        (refine own_region HM (by kernel_rfl) (by kernel_rfl) ?_; (try simp only [Act.put, List.setIfInBounds_toArray, List.set_cons_zero, List.set_cons_succ]); repeat ((fail_if_success (with_reducible refine wpQuiet_nil ?_)); first | go_big_quiet_skip | (go_big_quiet_want; first | ((with_reducible apply quiet_old); exact rfl; (first | (with_reducible exact oneInt) | (with_reducible exact oneU8) | (with_reducible exact oneBool) | (with_reducible exact oneU16) | (with_reducible exact oneStr)); (first | exact HC1.out | exact HC2.out); exact rfl; go_big_quiet_op; go_big_quiet_on) | (go_big_quiet_op; go_big_quiet_on) | (go_big_quiet_op; go_big_quiet_on) | (go_big_quiet_op; refine ⟨_, fun _ _ => rfl, ?_⟩; go_big_quiet_on))))
        refine wpQuiet_nil ?_
        intro w' HM'
        clear HM; have HM := HM'; clear HM'
        go_wp2_with fail
        go_roundw
        case rel => exact ⟨j + 1, by have := HJ.out; omega, by go_num, HM⟩
        case measure => have := HJ.out; simp [intOf]; omega
      · obtain rfl : j = k := by omega
        go_wp2_with fail
        go_ret
        exact ⟨rfl, Own.fin (Lib.hid (HM0.out.call (Own.fin HM)))⟩

set_option maxRecDepth 100000 in
set_option maxHeartbeats 6400000 in
theorem on_law_out0 (a1 a2 : Option Addr) (n1 c1 n2 c2 : Nat) (sp : Nat → Nat → Nat) (tl : Nat → Nat) (r0 r1 r2 r3 r4 r5 r6 r7 r8 r9 r10 : Nat) (line : Int) (b1 : r1 < 256) (b5 : r5 < 256) (ln : line < 0) (w : World) (h1 : TriRow w a1 n1 sp) (h2 : ByteRow w a2 n2 tl) (l1 : n1 ≤ 64) (l2 : n2 ≤ 300) :
    Calls Try.prog 4 #[.agg #[.slice a1 n1 c1, .slice a2 n2 c2], regsV r0 r1 r2 r3 r4 r5 r6 r7 r8 r9 r10, .int .i64 line] w fun e w' => e = .returned (.bool true) ∧ Below w.heap.size w w' := by
  have HM := Lib.hid (Own.start w)
  have tg1 : Hid True := trivial
  have tg2 : Hid True := trivial
  have L1 := Lib.hid l1
  have L2 := Lib.hid l2
  have HT1 := Lib.hid h1
  have HT2 := Lib.hid h2
  have H1 := Lib.hid b1
  have H5 := Lib.hid b5
  have HLN := Lib.hid ln
  have HLO : Hid (line < 0 ∨ 191 < line) := Lib.hid (by omega)
  obtain ⟨b, HB5⟩ : ∃ b, Hid (spBase r5 = b) := ⟨_, rfl⟩
  obtain ⟨T, hT⟩ : ∃ T, Hid (bTile tl n2 = T) := ⟨_, rfl⟩
  obtain ⟨h, hh⟩ : ∃ h, Hid (spH r1 = h) := ⟨_, rfl⟩
  have HMIN : Hid ((0 : Int) = min 0 8) := Lib.hid (by decide)
  clear l1 l2 h1 h2 b1 b5 ln
  go_enter Try.func4, Try.ntmps4
  go_upto_region 8 with (first | ((with_reducible apply own_box HM); exact rfl; (conv => lhs; whnf); exact rfl; exact rfl; (first | (clear tg1; intro w' g1 HM') | (clear tg2; intro w' g2 HM') | (clear tg3; intro w' g3 HM') | (clear tg4; intro w' g4 HM') | intro w' g' HM'); clear HM; have HM := HM'; clear HM'; all_goals skip) | ((with_reducible apply own_cell HM); exact rfl; exact rfl; (first | (with_reducible exact oneInt) | (with_reducible exact oneBool) | (with_reducible exact oneU8) | (with_reducible exact oneBs) | (with_reducible exact oneTs)); (first | with_reducible exact .z | with_reducible exact .s .z | with_reducible exact .s (.s .z) | with_reducible exact .s (.s (.s .z)) | with_reducible exact .s (.s (.s (.s .z))) | with_reducible exact .s (.s (.s (.s (.s .z))))); (focus repeat' (first | with_reducible exact .z | with_reducible apply Drop.s)); exact rfl; all_goals skip) | ((with_reducible apply own_load HM); exact rfl; exact rfl; (first | (with_reducible exact aggP) | (with_reducible exact agg11)); (first | with_reducible exact .z | with_reducible exact .s .z | with_reducible exact .s (.s .z) | with_reducible exact .s (.s (.s .z)) | with_reducible exact .s (.s (.s (.s .z))) | with_reducible exact .s (.s (.s (.s (.s .z))))); (focus repeat' (first | with_reducible exact .z | with_reducible apply Drop.s)); (focus repeat' (first | with_reducible exact .z | with_reducible apply Take.s)); exact rfl; all_goals skip) | ((with_reducible apply own_store HM); exact rfl; exact rfl; (conv => lhs; whnf); exact rfl; (first | with_reducible exact .z | with_reducible exact .s .z | with_reducible exact .s (.s .z) | with_reducible exact .s (.s (.s .z)) | with_reducible exact .s (.s (.s (.s .z))) | with_reducible exact .s (.s (.s (.s (.s .z))))); (focus repeat' (first | with_reducible exact .z | with_reducible apply Over.p | with_reducible apply Over.s)); (first | with_reducible exact .z | with_reducible exact .s .z | with_reducible exact .s (.s .z) | with_reducible exact .s (.s (.s .z)) | with_reducible exact .s (.s (.s (.s .z))) | with_reducible exact .s (.s (.s (.s (.s .z))))); (first | (with_reducible exact (aggP).size) | (with_reducible exact (agg11).size) | (with_reducible exact (oneInt).size) | (with_reducible exact (oneBool).size) | (with_reducible exact (oneU8).size) | (with_reducible exact (oneBs).size) | (with_reducible exact (oneTs).size)); exact rfl; exact rfl; exact rfl; exact rfl; intro w' HM'; clear HM; have HM := HM'; clear HM'; all_goals skip) | (go_at_call 9; (with_reducible refine (alive_any _).mono ?_); rintro e w' ⟨rfl, hb⟩; have HM' := Lib.hid (HM.out.call hb); clear HM hb; have HM := HM'; clear HM') | (go_at_call 11; (with_reducible refine (great_2 a1 a2 n1 c1 n2 c2 _ L1.out L2.out).mono ?_); rintro e w' ⟨rfl, hb⟩; have HM' := Lib.hid (HM.out.call hb); clear HM hb; have HM := HM'; clear HM') | (go_at_call 12; (with_reducible refine (build_any a1 a2 n1 c1 n2 c2 sp tl r0 r1 r2 r3 r4 r5 r6 r7 r8 r9 r10 b H5.out HB5 _ (HT1.out.under (Own.fin HM)) (HT2.out.under (Own.fin HM)) L1.out L2.out T hT).mono ?_); rintro e w' ⟨gv, rfl, hg, hW, hb⟩; have HM' := Lib.hid (HM.out.plus hb hg hW); clear HM hb hg hW; have HM := HM'; clear HM') | (go_at_call 8; (with_reducible refine (on_o _ 16384 16384 r0 r1 r2 r3 r4 r5 r6 r7 r8 r9 r10 line HLO.out _).mono ?_); rintro e w' ⟨p, cp, rfl, hb⟩; have HM' := Lib.hid (HM.out.call hb); clear HM hb; have HM := HM'; clear HM') | (go_at_call 13; (with_reducible refine (ron_o0 _ 16384 16384 r0 r1 r2 r3 r4 r5 r6 r7 r8 r9 r10 line HLN.out _).mono ?_); rintro e w' ⟨p2, cp2, rfl, hb⟩; have HM' := Lib.hid (HM.out.call hb); clear HM hb; have HM := HM'; clear HM'))
  (refine own_region HM (by kernel_rfl) (by kernel_rfl) ?_; (try simp only [Act.put, List.setIfInBounds_toArray, List.set_cons_zero, List.set_cons_succ]); repeat ((fail_if_success (with_reducible refine wpQuiet_nil ?_)); first | go_big_quiet_skip | (go_big_quiet_want; first | ((with_reducible apply quiet_min); exact rfl; exact rfl; (exact HMIN.out); go_big_quiet_op; go_big_quiet_on) | ((with_reducible apply quiet_load); exact rfl; (first | (with_reducible exact agg11)); (first | with_reducible exact .z | with_reducible exact .s .z | with_reducible exact .s (.s .z) | with_reducible exact .s (.s (.s .z)) | with_reducible exact .s (.s (.s (.s .z))) | with_reducible exact .s (.s (.s (.s (.s .z))))); (focus repeat' (first | with_reducible exact .z | with_reducible apply Drop.s)); (focus repeat' (first | with_reducible exact .z | with_reducible apply Take.s)); go_big_quiet_op; go_big_quiet_on) | (go_big_quiet_op; go_big_quiet_on) | ((with_reducible apply quiet_call); exact fun w => rfl; (focus (go_simp; all_goals with_reducible rfl)); (intro wq HQ; first | (with_reducible exact height_at r0 r1 r2 r3 r4 r5 r6 r7 r8 r9 r10 H1.out h hh _) | (with_reducible exact rheight_at r0 r1 r2 r3 r4 r5 r6 r7 r8 r9 r10 H1.out h hh _)); go_big_quiet_op; go_big_quiet_on) | (go_big_quiet_op; go_big_quiet_on) | (go_big_quiet_op; refine ⟨_, fun _ _ => rfl, ?_⟩; go_big_quiet_on))))
  refine wpQuiet_nil ?_
  intro w' HM'
  clear HM; have HM := HM'; clear HM'
  go_upto_region 11 with fail
  go_loopw [52] (fun i wr => i = .int .i64 0 ∧ ∃ l, Hid (Own w wr l)) (fun i _ => 0)
  case atStart => exact ⟨rfl, _, HM⟩
  case round =>
    clear HM
    obtain ⟨rfl, l, HM⟩ := hrel
    go_wp2_with fail
    go_ret
    exact ⟨rfl, Own.fin HM⟩

set_option maxRecDepth 100000 in
set_option maxHeartbeats 6400000 in
theorem on_law_out1 (a1 a2 : Option Addr) (n1 c1 n2 c2 : Nat) (sp : Nat → Nat → Nat) (tl : Nat → Nat) (r0 r1 r2 r3 r4 r5 r6 r7 r8 r9 r10 : Nat) (line : Int) (b1 : r1 < 256) (b5 : r5 < 256) (ln : 191 < line) (w : World) (h1 : TriRow w a1 n1 sp) (h2 : ByteRow w a2 n2 tl) (l1 : n1 ≤ 64) (l2 : n2 ≤ 300) :
    Calls Try.prog 4 #[.agg #[.slice a1 n1 c1, .slice a2 n2 c2], regsV r0 r1 r2 r3 r4 r5 r6 r7 r8 r9 r10, .int .i64 line] w fun e w' => e = .returned (.bool true) ∧ Below w.heap.size w w' := by
  have HM := Lib.hid (Own.start w)
  have tg1 : Hid True := trivial
  have tg2 : Hid True := trivial
  have L1 := Lib.hid l1
  have L2 := Lib.hid l2
  have HT1 := Lib.hid h1
  have HT2 := Lib.hid h2
  have H1 := Lib.hid b1
  have H5 := Lib.hid b5
  have HLN := Lib.hid ln
  have HLO : Hid (line < 0 ∨ 191 < line) := Lib.hid (by omega)
  obtain ⟨b, HB5⟩ : ∃ b, Hid (spBase r5 = b) := ⟨_, rfl⟩
  obtain ⟨T, hT⟩ : ∃ T, Hid (bTile tl n2 = T) := ⟨_, rfl⟩
  obtain ⟨h, hh⟩ : ∃ h, Hid (spH r1 = h) := ⟨_, rfl⟩
  have HMIN : Hid ((0 : Int) = min 0 8) := Lib.hid (by decide)
  clear l1 l2 h1 h2 b1 b5 ln
  go_enter Try.func4, Try.ntmps4
  go_upto_region 8 with (first | ((with_reducible apply own_box HM); exact rfl; (conv => lhs; whnf); exact rfl; exact rfl; (first | (clear tg1; intro w' g1 HM') | (clear tg2; intro w' g2 HM') | (clear tg3; intro w' g3 HM') | (clear tg4; intro w' g4 HM') | intro w' g' HM'); clear HM; have HM := HM'; clear HM'; all_goals skip) | ((with_reducible apply own_cell HM); exact rfl; exact rfl; (first | (with_reducible exact oneInt) | (with_reducible exact oneBool) | (with_reducible exact oneU8) | (with_reducible exact oneBs) | (with_reducible exact oneTs)); (first | with_reducible exact .z | with_reducible exact .s .z | with_reducible exact .s (.s .z) | with_reducible exact .s (.s (.s .z)) | with_reducible exact .s (.s (.s (.s .z))) | with_reducible exact .s (.s (.s (.s (.s .z))))); (focus repeat' (first | with_reducible exact .z | with_reducible apply Drop.s)); exact rfl; all_goals skip) | ((with_reducible apply own_load HM); exact rfl; exact rfl; (first | (with_reducible exact aggP) | (with_reducible exact agg11)); (first | with_reducible exact .z | with_reducible exact .s .z | with_reducible exact .s (.s .z) | with_reducible exact .s (.s (.s .z)) | with_reducible exact .s (.s (.s (.s .z))) | with_reducible exact .s (.s (.s (.s (.s .z))))); (focus repeat' (first | with_reducible exact .z | with_reducible apply Drop.s)); (focus repeat' (first | with_reducible exact .z | with_reducible apply Take.s)); exact rfl; all_goals skip) | ((with_reducible apply own_store HM); exact rfl; exact rfl; (conv => lhs; whnf); exact rfl; (first | with_reducible exact .z | with_reducible exact .s .z | with_reducible exact .s (.s .z) | with_reducible exact .s (.s (.s .z)) | with_reducible exact .s (.s (.s (.s .z))) | with_reducible exact .s (.s (.s (.s (.s .z))))); (focus repeat' (first | with_reducible exact .z | with_reducible apply Over.p | with_reducible apply Over.s)); (first | with_reducible exact .z | with_reducible exact .s .z | with_reducible exact .s (.s .z) | with_reducible exact .s (.s (.s .z)) | with_reducible exact .s (.s (.s (.s .z))) | with_reducible exact .s (.s (.s (.s (.s .z))))); (first | (with_reducible exact (aggP).size) | (with_reducible exact (agg11).size) | (with_reducible exact (oneInt).size) | (with_reducible exact (oneBool).size) | (with_reducible exact (oneU8).size) | (with_reducible exact (oneBs).size) | (with_reducible exact (oneTs).size)); exact rfl; exact rfl; exact rfl; exact rfl; intro w' HM'; clear HM; have HM := HM'; clear HM'; all_goals skip) | (go_at_call 9; (with_reducible refine (alive_any _).mono ?_); rintro e w' ⟨rfl, hb⟩; have HM' := Lib.hid (HM.out.call hb); clear HM hb; have HM := HM'; clear HM') | (go_at_call 11; (with_reducible refine (great_2 a1 a2 n1 c1 n2 c2 _ L1.out L2.out).mono ?_); rintro e w' ⟨rfl, hb⟩; have HM' := Lib.hid (HM.out.call hb); clear HM hb; have HM := HM'; clear HM') | (go_at_call 12; (with_reducible refine (build_any a1 a2 n1 c1 n2 c2 sp tl r0 r1 r2 r3 r4 r5 r6 r7 r8 r9 r10 b H5.out HB5 _ (HT1.out.under (Own.fin HM)) (HT2.out.under (Own.fin HM)) L1.out L2.out T hT).mono ?_); rintro e w' ⟨gv, rfl, hg, hW, hb⟩; have HM' := Lib.hid (HM.out.plus hb hg hW); clear HM hb hg hW; have HM := HM'; clear HM') | (go_at_call 8; (with_reducible refine (on_o _ 16384 16384 r0 r1 r2 r3 r4 r5 r6 r7 r8 r9 r10 line HLO.out _).mono ?_); rintro e w' ⟨p, cp, rfl, hb⟩; have HM' := Lib.hid (HM.out.call hb); clear HM hb; have HM := HM'; clear HM') | (go_at_call 13; (with_reducible refine (ron_o1 _ 16384 16384 r0 r1 r2 r3 r4 r5 r6 r7 r8 r9 r10 line HLN.out _).mono ?_); rintro e w' ⟨p2, cp2, rfl, hb⟩; have HM' := Lib.hid (HM.out.call hb); clear HM hb; have HM := HM'; clear HM'))
  (refine own_region HM (by kernel_rfl) (by kernel_rfl) ?_; (try simp only [Act.put, List.setIfInBounds_toArray, List.set_cons_zero, List.set_cons_succ]); repeat ((fail_if_success (with_reducible refine wpQuiet_nil ?_)); first | go_big_quiet_skip | (go_big_quiet_want; first | ((with_reducible apply quiet_min); exact rfl; exact rfl; (exact HMIN.out); go_big_quiet_op; go_big_quiet_on) | ((with_reducible apply quiet_load); exact rfl; (first | (with_reducible exact agg11)); (first | with_reducible exact .z | with_reducible exact .s .z | with_reducible exact .s (.s .z) | with_reducible exact .s (.s (.s .z)) | with_reducible exact .s (.s (.s (.s .z))) | with_reducible exact .s (.s (.s (.s (.s .z))))); (focus repeat' (first | with_reducible exact .z | with_reducible apply Drop.s)); (focus repeat' (first | with_reducible exact .z | with_reducible apply Take.s)); go_big_quiet_op; go_big_quiet_on) | (go_big_quiet_op; go_big_quiet_on) | ((with_reducible apply quiet_call); exact fun w => rfl; (focus (go_simp; all_goals with_reducible rfl)); (intro wq HQ; first | (with_reducible exact height_at r0 r1 r2 r3 r4 r5 r6 r7 r8 r9 r10 H1.out h hh _) | (with_reducible exact rheight_at r0 r1 r2 r3 r4 r5 r6 r7 r8 r9 r10 H1.out h hh _)); go_big_quiet_op; go_big_quiet_on) | (go_big_quiet_op; go_big_quiet_on) | (go_big_quiet_op; refine ⟨_, fun _ _ => rfl, ?_⟩; go_big_quiet_on))))
  refine wpQuiet_nil ?_
  intro w' HM'
  clear HM; have HM := HM'; clear HM'
  go_upto_region 11 with fail
  go_loopw [52] (fun i wr => i = .int .i64 0 ∧ ∃ l, Hid (Own w wr l)) (fun i _ => 0)
  case atStart => exact ⟨rfl, _, HM⟩
  case round =>
    clear HM
    obtain ⟨rfl, l, HM⟩ := hrel
    go_wp2_with fail
    go_ret
    exact ⟨rfl, Own.fin HM⟩

theorem on_law_any (a1 a2 : Option Addr) (n1 c1 n2 c2 : Nat) (sp : Nat → Nat → Nat) (tl : Nat → Nat) (r0 r1 r2 r3 r4 r5 r6 r7 r8 r9 r10 : Nat) (line : Int) (b1 : r1 < 256) (b5 : r5 < 256) (w : World) (h1 : TriRow w a1 n1 sp) (h2 : ByteRow w a2 n2 tl) :
    Calls Try.prog 4 #[.agg #[.slice a1 n1 c1, .slice a2 n2 c2], regsV r0 r1 r2 r3 r4 r5 r6 r7 r8 r9 r10, .int .i64 line] w fun e w' => e = .returned (.bool true) ∧ Below w.heap.size w w' := by
  by_cases l1 : n1 ≤ 64
  · by_cases l2 : n2 ≤ 300
    · by_cases k0 : line < 0
      · exact on_law_out0 a1 a2 n1 c1 n2 c2 sp tl r0 r1 r2 r3 r4 r5 r6 r7 r8 r9 r10 line b1 b5 k0 w h1 h2 l1 l2
      · by_cases k1 : 191 < line
        · exact on_law_out1 a1 a2 n1 c1 n2 c2 sp tl r0 r1 r2 r3 r4 r5 r6 r7 r8 r9 r10 line b1 b5 k1 w h1 h2 l1 l2
        · exact on_law_in a1 a2 n1 c1 n2 c2 sp tl r0 r1 r2 r3 r4 r5 r6 r7 r8 r9 r10 line b1 b5 (by omega) (by omega) w h1 h2 l1 l2
    · exact on_law_o1 a1 a2 n1 c1 n2 c2 r0 r1 r2 r3 r4 r5 r6 r7 r8 r9 r10 line w l1 (by omega)
  · exact on_law_o0 a1 a2 n1 c1 n2 c2 r0 r1 r2 r3 r4 r5 r6 r7 r8 r9 r10 line w (by omega)

end Go.Proofs.Ytcefgcoibppdaaa
