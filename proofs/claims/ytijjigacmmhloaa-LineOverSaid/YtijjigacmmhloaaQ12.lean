import Derived.Test.YtijjigacmmhloaaQ11
namespace Go.Proofs.Ytijjigacmmhloaa
open Go.RowKit
theorem rdot_any (a : Option Addr) (n cap : Nat) (xs : Nat → Nat) (e r i d : Nat) (he : e < 512) (hr : r < 8) (hi : i < 8) (hd : Hid (tDot n xs e r i = d)) (w : World) (hV : ByteRow w a n xs) :
    Calls Try.prog 29 #[.slice a n cap, .int .i64 (e : Int), .int .i64 (r : Int), .int .i64 (i : Int)] w fun x w' => x = .returned (.int .u8 (d : Int)) ∧ w = w' := by
  have hT : Hid ((e : Int) % 512 = (e : Int)) := by show _ = _; omega
  have hR : Hid ((r : Int) % 8 = (r : Int)) := by show _ = _; omega
  have hf : Hid (32 * (e : Int) + 4 * (r : Int) = ((32 * e + 4 * r : Nat) : Int)) := by show _ = _; omega
  obtain rfl | rfl | rfl | rfl | rfl | rfl | rfl | rfl : i = 0 ∨ i = 1 ∨ i = 2 ∨ i = 3 ∨ i = 4 ∨ i = 5 ∨ i = 6 ∨ i = 7 := by omega
  · exact rdot_0 a n cap xs e r e r (32 * e + 4 * r) _ _ _ _ d hT hR hf (Lib.hid rfl) (Lib.hid rfl) (Lib.hid rfl) (Lib.hid rfl) hd w hV
  · exact rdot_1 a n cap xs e r e r (32 * e + 4 * r) _ _ _ _ d hT hR hf (Lib.hid rfl) (Lib.hid rfl) (Lib.hid rfl) (Lib.hid rfl) hd w hV
  · exact rdot_2 a n cap xs e r e r (32 * e + 4 * r) _ _ _ _ d hT hR hf (Lib.hid rfl) (Lib.hid rfl) (Lib.hid rfl) (Lib.hid rfl) hd w hV
  · exact rdot_3 a n cap xs e r e r (32 * e + 4 * r) _ _ _ _ d hT hR hf (Lib.hid rfl) (Lib.hid rfl) (Lib.hid rfl) (Lib.hid rfl) hd w hV
  · exact rdot_4 a n cap xs e r e r (32 * e + 4 * r) _ _ _ _ d hT hR hf (Lib.hid rfl) (Lib.hid rfl) (Lib.hid rfl) (Lib.hid rfl) hd w hV
  · exact rdot_5 a n cap xs e r e r (32 * e + 4 * r) _ _ _ _ d hT hR hf (Lib.hid rfl) (Lib.hid rfl) (Lib.hid rfl) (Lib.hid rfl) hd w hV
  · exact rdot_6 a n cap xs e r e r (32 * e + 4 * r) _ _ _ _ d hT hR hf (Lib.hid rfl) (Lib.hid rfl) (Lib.hid rfl) (Lib.hid rfl) hd w hV
  · exact rdot_7 a n cap xs e r e r (32 * e + 4 * r) _ _ _ _ d hT hR hf (Lib.hid rfl) (Lib.hid rfl) (Lib.hid rfl) (Lib.hid rfl) hd w hV
set_option maxHeartbeats 800000 in
theorem rsource_in (r0 r1 r2 r3 r4 r5 r6 r7 r8 r9 r10 line x : Nat) (h0 : r0 < 256) (h8 : r8 < 256) (h9 : r9 < 256) (hl : line < 192) (hx : x < 256) (c q : Nat) (X : Int) (hX : Hid (X % 256 = (x : Int))) (hc : Hid (baCol r0 r8 line x = c)) (hq : Hid (baRow r0 r9 line x = q)) (w : World) :
    Calls Try.prog 27 #[regsV r0 r1 r2 r3 r4 r5 r6 r7 r8 r9 r10, .int .i64 (line : Int), .int .i64 X] w fun e w' => e = .returned (.tuple #[.int .i64 (c : Int), .int .i64 (q : Int)]) ∧ Below w.heap.size w w' := by
  refine rsource_at r0 r1 r2 r3 r4 r5 r6 r7 r8 r9 r10 line X (x : Int) (((x + 256 - r8) % 256 : Nat) : Int) (((line + r9) % 224 : Nat) : Int) c q h0 h8 h9 (by omega) (by omega) hX (by show _ = _; omega) (by show _ = _; omega) ?_ ?_ w
  · show _ = _
    rw [← hc.out]; unfold baCol
    by_cases k1 : r0 / 64 % 2 = 1 <;> by_cases k2 : line < 16
    · have : (line : Int) < 16 := by omega
      simp [k1, k2, this]
    · have : ¬ (line : Int) < 16 := by omega
      simp [k2, this]
    · simp [k1]
    · simp [k1]
  · show _ = _
    rw [← hq.out]; unfold baRow
    by_cases k1 : r0 / 128 = 1 <;> by_cases k2 : 192 ≤ x
    · have : (192 : Int) ≤ (x : Int) := by omega
      simp [k1, k2, this]
    · have : ¬ (192 : Int) ≤ (x : Int) := by omega
      simp [k2, this]
    · simp [k1]
    · simp [k1]
theorem rback_in (a : Option Addr) (n cap : Nat) (xs : Nat → Nat) (r0 r1 r2 r3 r4 r5 r6 r7 r8 r9 r10 line x : Nat) (h0 : r0 < 256) (h2 : r2 < 256) (h8 : r8 < 256) (h9 : r9 < 256) (hl : line < 192) (hx : x < 256) (v : Nat) (t : Bool) (hv : Hid (gColor n xs r0 r2 r8 r9 line x = v)) (ht : Hid (gFront n xs r0 r2 r8 r9 line x = t)) (w : World) (hV : ByteRow w a n xs) :
    Calls Try.prog 17 #[.slice a n cap, regsV r0 r1 r2 r3 r4 r5 r6 r7 r8 r9 r10, .int .i64 (line : Int), .int .i64 (x : Int)] w fun e w' => e = .returned (.tuple #[.int .u8 (v : Int), .bool t]) ∧ Below w.heap.size w w' := by
  obtain ⟨c, hc⟩ : ∃ c, Hid (baCol r0 r8 line x = c) := ⟨_, rfl⟩
  obtain ⟨q, hq⟩ : ∃ q, Hid (baRow r0 r9 line x = q) := ⟨_, rfl⟩
  have c1 : c < 256 := hc.out ▸ baCol_lt hx
  have q1 : q < 224 := hq.out ▸ baRow_lt hl
  obtain ⟨m, hm⟩ : ∃ m, Hid (baN n xs r2 q c = m) := ⟨_, rfl⟩
  obtain ⟨d, hd⟩ : ∃ d, Hid (baD n xs m q c = d) := ⟨_, rfl⟩
  have d16 : d < 16 := hd.out ▸ baD_lt _ _ _ _ _
  have Q1 := baQ_lt r2 q c q1 c1
  have ev : v = d + 16 * (m / 512 % 16 / 4 % 2) := by
    rw [← hv.out]; unfold gColor; rw [hc.out, hq.out, hm.out, hd.out]; rfl
  have et : t = (decide (m / 512 % 16 / 8 = 1) && decide (0 < d)) := by
    rw [← ht.out]; unfold gFront; rw [hc.out, hq.out, hm.out, hd.out]; rfl
  refine rback_at a n cap r0 r1 r2 r3 r4 r5 r6 r7 r8 r9 r10 line x c q (1024 * (r2 / 2 % 8 * 2)) (m % 512) (m / 512 % 16) d (baR (m / 512 % 16) q) (baC (m / 512 % 16) c) v t h2 (by omega) (by omega) c1 q1 (Lib.hid rfl) (by omega) d16 (Lib.hid rfl) (Lib.hid rfl) (Lib.hid ev) (Lib.hid et) w
    (Lib.hid fun w' _ => rsource_in r0 r1 r2 r3 r4 r5 r6 r7 r8 r9 r10 line x h0 h8 h9 hl hx c q (x : Int) (by show _ = _; omega) hc hq w') (Lib.hid fun w' hb => ?_) (Lib.hid fun w' hb => ?_)
  · have eb : 1024 * (r2 / 2 % 8 * 2) + 64 * (q / 8) + 2 * (c / 8) = baQ r2 q c := rfl
    exact rentry_at a n cap xs _ _ _ ((1024 * (r2 / 2 % 8 * 2) : Nat) : Int) ((q / 8 : Nat) : Int) ((c / 8 : Nat) : Int) ((baQ r2 q c : Nat) : Int) (baQ r2 q c) (baQ r2 q c + 1) _ _ _ _ (by show _ = _; omega) (by show _ = _; omega) (by show _ = _; omega) (by show _ = _; omega) (by show _ = _; omega) (by show _ = _; omega) (Lib.hid rfl) (Lib.hid rfl)
      (by show _ = _; rw [← hm.out]; rfl) (by show _ = _; rw [← hm.out]; rfl) w' (hV.under hb)
  · exact rdot_any a n cap xs (m % 512) (baR (m / 512 % 16) q) (baC (m / 512 % 16) c) d (Nat.mod_lt _ (by decide)) (baR_lt _ _) (baC_lt _ _) hd w' (hV.under hb)
theorem agg2i : Agg Try.prog 37 2 := ⟨⟨_, Try.underlying37, rfl⟩, by kernel_rfl⟩
theorem rtdot_any (a : Option Addr) (n cap : Nat) (xs : Nat → Nat) (e r i d : Nat) (E R I : Int) (hE : Hid ((e : Int) = E)) (hR : Hid ((r : Int) = R)) (hI : Hid ((i : Int) = I)) (hi : i < 8) (hd : Hid (tAt n xs e r i = d)) (w : World) (hV : ByteRow w a n xs) :
    Calls Try.prog 29 #[.slice a n cap, .int .i64 E, .int .i64 R, .int .i64 I] w fun e w' => e = .returned (.int .u8 (d : Int)) ∧ w = w' := by
  obtain rfl := hE.out
  obtain rfl := hR.out
  obtain rfl := hI.out
  have hT : Hid ((e : Int) % 512 = ((e % 512 : Nat) : Int)) := by show _ = _; omega
  have hR' : Hid ((r : Int) % 8 = ((r % 8 : Nat) : Int)) := by show _ = _; omega
  have hf : Hid (32 * ((e % 512 : Nat) : Int) + 4 * ((r % 8 : Nat) : Int) = ((32 * (e % 512) + 4 * (r % 8) : Nat) : Int)) := by show _ = _; omega
  obtain rfl | rfl | rfl | rfl | rfl | rfl | rfl | rfl : i = 0 ∨ i = 1 ∨ i = 2 ∨ i = 3 ∨ i = 4 ∨ i = 5 ∨ i = 6 ∨ i = 7 := by omega
  · exact rdot_0 a n cap xs e r ((e % 512 : Nat) : Int) ((r % 8 : Nat) : Int) (32 * (e % 512) + 4 * (r % 8)) _ _ _ _ d hT hR' hf (Lib.hid rfl) (Lib.hid rfl) (Lib.hid rfl) (Lib.hid rfl) hd w hV
  · exact rdot_1 a n cap xs e r ((e % 512 : Nat) : Int) ((r % 8 : Nat) : Int) (32 * (e % 512) + 4 * (r % 8)) _ _ _ _ d hT hR' hf (Lib.hid rfl) (Lib.hid rfl) (Lib.hid rfl) (Lib.hid rfl) hd w hV
  · exact rdot_2 a n cap xs e r ((e % 512 : Nat) : Int) ((r % 8 : Nat) : Int) (32 * (e % 512) + 4 * (r % 8)) _ _ _ _ d hT hR' hf (Lib.hid rfl) (Lib.hid rfl) (Lib.hid rfl) (Lib.hid rfl) hd w hV
  · exact rdot_3 a n cap xs e r ((e % 512 : Nat) : Int) ((r % 8 : Nat) : Int) (32 * (e % 512) + 4 * (r % 8)) _ _ _ _ d hT hR' hf (Lib.hid rfl) (Lib.hid rfl) (Lib.hid rfl) (Lib.hid rfl) hd w hV
  · exact rdot_4 a n cap xs e r ((e % 512 : Nat) : Int) ((r % 8 : Nat) : Int) (32 * (e % 512) + 4 * (r % 8)) _ _ _ _ d hT hR' hf (Lib.hid rfl) (Lib.hid rfl) (Lib.hid rfl) (Lib.hid rfl) hd w hV
  · exact rdot_5 a n cap xs e r ((e % 512 : Nat) : Int) ((r % 8 : Nat) : Int) (32 * (e % 512) + 4 * (r % 8)) _ _ _ _ d hT hR' hf (Lib.hid rfl) (Lib.hid rfl) (Lib.hid rfl) (Lib.hid rfl) hd w hV
  · exact rdot_6 a n cap xs e r ((e % 512 : Nat) : Int) ((r % 8 : Nat) : Int) (32 * (e % 512) + 4 * (r % 8)) _ _ _ _ d hT hR' hf (Lib.hid rfl) (Lib.hid rfl) (Lib.hid rfl) (Lib.hid rfl) hd w hV
  · exact rdot_7 a n cap xs e r ((e % 512 : Nat) : Int) ((r % 8 : Nat) : Int) (32 * (e % 512) + 4 * (r % 8)) _ _ _ _ d hT hR' hf (Lib.hid rfl) (Lib.hid rfl) (Lib.hid rfl) (Lib.hid rfl) hd w hV
theorem rtdot_p (a : Option Addr) (n cap : Nat) (xs : Nat → Nat) (e rr cc d : Nat) (_hlow : True) (hi : cc < 8) (hd : Hid (tAt n xs e rr cc = d)) (w : World) (hV : ByteRow w a n xs) :
    Calls Try.prog 29 #[.slice a n cap, .int .i64 (e : Int), .int .i64 (rr : Int), .int .i64 (cc : Int)] w fun e w' => e = .returned (.int .u8 (d : Int)) ∧ w = w' :=
  rtdot_any a n cap xs e rr cc d _ _ _ (Lib.hid (by omega)) (Lib.hid (by omega)) (Lib.hid rfl) hi hd w hV
theorem rtdot_l (a : Option Addr) (n cap : Nat) (xs : Nat → Nat) (e rr cc d : Nat) (hlow : 8 ≤ rr) (hi : cc < 8) (hd : Hid (tAt n xs (e + 1) (rr - 8) cc = d)) (w : World) (hV : ByteRow w a n xs) :
    Calls Try.prog 29 #[.slice a n cap, .int .i64 ((e : Int) + 1), .int .i64 ((rr : Int) - 8), .int .i64 (cc : Int)] w fun e w' => e = .returned (.int .u8 (d : Int)) ∧ w = w' :=
  rtdot_any a n cap xs (e + 1) (rr - 8) cc d _ _ _ (Lib.hid (by omega)) (Lib.hid (by omega)) (Lib.hid rfl) hi hd w hV
theorem rtdot_v (a : Option Addr) (n cap : Nat) (xs : Nat → Nat) (e rr cc d : Nat) (_hlow : True) (hi : cc < 8) (hd : Hid (tAt n xs (e / 2 * 2) rr cc = d)) (w : World) (hV : ByteRow w a n xs) :
    Calls Try.prog 29 #[.slice a n cap, .int .i64 ((e : Int) / 2 * 2), .int .i64 (rr : Int), .int .i64 (cc : Int)] w fun e w' => e = .returned (.int .u8 (d : Int)) ∧ w = w' :=
  rtdot_any a n cap xs (e / 2 * 2) rr cc d _ _ _ (Lib.hid (by omega)) (Lib.hid (by omega)) (Lib.hid rfl) hi hd w hV
theorem rtdot_w (a : Option Addr) (n cap : Nat) (xs : Nat → Nat) (e rr cc d : Nat) (hlow : 8 ≤ rr) (hi : cc < 8) (hd : Hid (tAt n xs (e / 2 * 2 + 1) (rr - 8) cc = d)) (w : World) (hV : ByteRow w a n xs) :
    Calls Try.prog 29 #[.slice a n cap, .int .i64 ((e : Int) / 2 * 2 + 1), .int .i64 ((rr : Int) - 8), .int .i64 (cc : Int)] w fun e w' => e = .returned (.int .u8 (d : Int)) ∧ w = w' :=
  rtdot_any a n cap xs (e / 2 * 2 + 1) (rr - 8) cc d _ _ _ (Lib.hid (by omega)) (Lib.hid (by omega)) (Lib.hid rfl) hi hd w hV
end Go.Proofs.Ytijjigacmmhloaa
