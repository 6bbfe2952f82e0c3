/-
  The law EventCounts returns true.
-/
import Derived.Test.YtoinngodknffeaaEvNames
namespace Go.Proofs.Ytoinngodknffeaa
open Go.RowKit

theorem div_step {r p : Int} (r0 : 0 ≤ r) : 0 ≤ p % (r + 1) ∧ ((p % (r + 1) = r ∧ (p + 1) / (r + 1) = p / (r + 1) + 1 ∧ (p + 1) % (r + 1) = 0) ∨ (p % (r + 1) < r ∧ (p + 1) / (r + 1) = p / (r + 1) ∧ (p + 1) % (r + 1) = p % (r + 1) + 1)) := by
  have h1 := Int.emod_nonneg p (show (r + 1) ≠ 0 by omega)
  have h2 := Int.emod_lt_of_pos p (show 0 < r + 1 by omega)
  have h3 := Int.mul_ediv_add_emod p (r + 1)
  generalize p / (r + 1) = q at h3 ⊢
  generalize p % (r + 1) = m at h1 h2 h3 ⊢
  refine ⟨h1, ?_⟩
  rcases (show m = r ∨ m < r by omega) with h | h
  · left
    refine ⟨h, ?_, ?_⟩
    · rw [show p + 1 = (r + 1) * (q + 1) by rw [Int.mul_add]; omega, Int.mul_ediv_cancel_left _ (by omega)]
    · rw [show p + 1 = (r + 1) * (q + 1) by rw [Int.mul_add]; omega, Int.mul_emod_right]
  · right
    refine ⟨h, ?_, ?_⟩
    · rw [show p + 1 = (m + 1) + (r + 1) * q by omega, Int.add_mul_ediv_left _ _ (by omega), Int.ediv_eq_zero_of_lt (by omega) (by omega)]; omega
    · rw [show p + 1 = (m + 1) + (r + 1) * q by omega, Int.add_mul_emod_self_left, Int.emod_eq_of_lt (by omega) (by omega)]

/-- what is known within a frame, at line p -/
def Rel (A Q f r p c X Y : Int) : Prop := (p ≤ 193 ∧ c = r - p % (r + 1) ∧ X = A + p / (r + 1) ∧ Y = f + (if p = 193 then 1 else 0)) ∨ (193 < p ∧ c = r ∧ X = A + Q ∧ Y = f + 1)
theorem Rel.bd {A Q f r p c X Y : Int} (h : Rel A Q f r p c X Y) (r0 : 0 ≤ r) (p0 : 0 ≤ p) (Q0 : 0 ≤ Q) (Q1 : Q ≤ 193) : A ≤ X ∧ X ≤ A + 193 ∧ f ≤ Y ∧ Y ≤ f + 1 := by
  rcases h with ⟨a, -, rfl, rfl⟩ | ⟨-, -, rfl, rfl⟩
  · have q1 : 0 ≤ p / (r + 1) := Int.ediv_nonneg p0 (by omega)
    have q2 : p / (r + 1) ≤ p := Int.ediv_le_self _ p0
    generalize p / (r + 1) = q at q1 q2 ⊢
    refine ⟨by omega, by omega, ?_, ?_⟩ <;> split <;> omega
  · omega
theorem Rel.step {A Q f r p c X Y N' : Int} {L' F' : Bool} (h : Rel A Q f r p c X Y) (hQ : 193 / (r + 1) = Q) (hs : St c p r false false N' L' F') (r0 : 0 ≤ r) (p0 : 0 ≤ p) (p1 : p < 262) :
    Rel A Q f r (p + 1) N' (X + (if L' then 1 else 0)) (Y + (if F' then 1 else 0)) := by
  obtain ⟨rfl, rfl, rfl⟩ := hs
  have d := div_step (p := p) r0
  have eF : (if stF p false = true then (1 : Int) else 0) = if p = 192 then 1 else 0 := by
    unfold stF
    by_cases h : p = 192 <;> simp [h]
  have eL : (if stL c p false = true then (1 : Int) else 0) = if p ≤ 192 ∧ c = 0 then 1 else 0 := by
    unfold stL
    by_cases h : p ≤ 192 ∧ c = 0
    · have h2 : 0 ≤ p ∧ p ≤ 192 ∧ c = 0 := ⟨p0, h⟩
      simp only [if_pos h, if_pos h2]
      rfl
    · have h2 : ¬ (0 ≤ p ∧ p ≤ 192 ∧ c = 0) := fun q => h q.2
      simp only [if_neg h, if_neg h2]
      rfl
  rw [eF, eL]
  unfold stN
  rw [if_neg (show ¬(p < 0 ∨ 261 < p) by omega)]
  rcases h with ⟨a, rfl, rfl, rfl⟩ | ⟨a, rfl, rfl, rfl⟩
  · by_cases h3 : p = 193
    · right
      subst h3
      rw [hQ]
      refine ⟨by decide, by rw [if_pos (by decide)], ?_, ?_⟩
      · rw [if_neg (by omega)]; omega
      · rw [if_pos rfl, if_neg (by decide)]; omega
    · left
      rw [if_neg (show ¬ 192 < p by omega)]
      generalize p / (r + 1) = q at d ⊢
      generalize p % (r + 1) = m at d ⊢
      obtain ⟨d0, d⟩ := d
      rcases d with ⟨d1, d2, d3⟩ | ⟨d1, d2, d3⟩
      · rw [d2, d3]
        refine ⟨by omega, ?_, ?_, ?_⟩
        · rw [if_pos (by omega)]; omega
        · rw [if_pos (by omega)]; omega
        · rw [if_neg h3]; split <;> split <;> omega
      · rw [d2, d3]
        refine ⟨by omega, ?_, ?_, ?_⟩
        · rw [if_neg (by omega)]; omega
        · rw [if_neg (by omega)]; omega
        · rw [if_neg h3]; split <;> split <;> omega
  · right
    rw [if_pos (by omega), if_neg (by omega), if_neg (by omega)]
    refine ⟨by omega, rfl, by omega, by omega⟩

theorem counts_out (r fr : Int) (h : fr < 1 ∨ 6 < fr) (w : World) :
    Calls Try.prog 7 #[.int .u8 r, .int .i64 fr] w fun e w' => e = .returned (.bool true) ∧ Below w.heap.size w w' := by
  have HM := Lib.hid (Own.start w)
  rcases h with h | h
  all_goals
    go_enter Try.func7, Try.ntmps7
    go_wp2_with (first | ((with_reducible apply own_box HM); exact rfl; (conv => lhs; whnf); exact rfl; exact rfl; (first | (clear tg1; intro w' g1 HM') | (clear tg2; intro w' g2 HM') | (clear tg3; intro w' g3 HM') | (clear tg4; intro w' g4 HM') | intro w' g' HM'); clear HM; have HM := HM'; clear HM'; all_goals skip) | ((with_reducible apply own_alloc HM); exact rfl; (first | (with_reducible exact zeroE)); exact rfl; (first | (clear tg1; intro w' g1 HM') | (clear tg2; intro w' g2 HM') | (clear tg3; intro w' g3 HM') | (clear tg4; intro w' g4 HM') | intro w' g' HM'); clear HM; have HM := HM'; clear HM'; all_goals skip) | ((with_reducible apply own_cell HM); exact rfl; exact rfl; (first | (with_reducible exact oneInt) | (with_reducible exact oneBool) | (with_reducible exact oneU8)); (first | with_reducible exact .z | with_reducible exact .s .z | with_reducible exact .s (.s .z) | with_reducible exact .s (.s (.s .z)) | with_reducible exact .s (.s (.s (.s .z))) | with_reducible exact .s (.s (.s (.s (.s .z))))); (focus repeat' (first | with_reducible exact .z | with_reducible apply Drop.s)); exact rfl; all_goals skip) | ((with_reducible apply own_load HM); exact rfl; exact rfl; (first | (with_reducible exact aggE)); (first | with_reducible exact .z | with_reducible exact .s .z | with_reducible exact .s (.s .z) | with_reducible exact .s (.s (.s .z)) | with_reducible exact .s (.s (.s (.s .z))) | with_reducible exact .s (.s (.s (.s (.s .z))))); (focus repeat' (first | with_reducible exact .z | with_reducible apply Drop.s)); (focus repeat' (first | with_reducible exact .z | with_reducible apply Take.s)); exact rfl; all_goals skip) | ((with_reducible apply own_store HM); exact rfl; exact rfl; (conv => lhs; whnf); exact rfl; (first | with_reducible exact .z | with_reducible exact .s .z | with_reducible exact .s (.s .z) | with_reducible exact .s (.s (.s .z)) | with_reducible exact .s (.s (.s (.s .z))) | with_reducible exact .s (.s (.s (.s (.s .z))))); (focus repeat' (first | with_reducible exact .z | with_reducible apply Over.p | with_reducible apply Over.s)); (first | with_reducible exact .z | with_reducible exact .s .z | with_reducible exact .s (.s .z) | with_reducible exact .s (.s (.s .z)) | with_reducible exact .s (.s (.s (.s .z))) | with_reducible exact .s (.s (.s (.s (.s .z))))); (first | (with_reducible exact (aggE).size) | (with_reducible exact (oneInt).size) | (with_reducible exact (oneBool).size) | (with_reducible exact (oneU8).size)); exact rfl; exact rfl; exact rfl; exact rfl; intro w' HM'; clear HM; have HM := HM'; clear HM'; all_goals skip) | (go_at_call 10; (with_reducible refine (alive_any _).mono ?_); rintro e w' ⟨rfl, hb⟩; have HM' := Lib.hid (HM.out.call hb); clear HM hb; have HM := HM'; clear HM'))
    go_ret
    exact ⟨rfl, Own.fin HM⟩

set_option maxHeartbeats 3200000 in
theorem counts_in (r fr : Int) (h1 : 1 ≤ fr) (h2 : fr ≤ 6) (r0 : 0 ≤ r) (r1 : r < 256) (w : World) :
    Calls Try.prog 7 #[.int .u8 r, .int .i64 fr] w fun e w' => e = .returned (.bool true) ∧ Below w.heap.size w w' := by
  have HM := Lib.hid (Own.start w)
  have tg1 : Hid True := trivial
  obtain ⟨Q, hQ⟩ : ∃ Q, Hid (193 / (r + 1) = Q) := ⟨_, rfl⟩
  have Q0 : 0 ≤ Q := by rw [← hQ.out]; exact Int.ediv_nonneg (by decide) (by omega)
  have Q1 : Q ≤ 193 := by rw [← hQ.out]; exact Int.ediv_le_self _ (by decide)
  go_enter Try.func7, Try.ntmps7
  go_wp2_with (first | ((with_reducible apply own_box HM); exact rfl; (conv => lhs; whnf); exact rfl; exact rfl; (first | (clear tg1; intro w' g1 HM') | (clear tg2; intro w' g2 HM') | (clear tg3; intro w' g3 HM') | (clear tg4; intro w' g4 HM') | intro w' g' HM'); clear HM; have HM := HM'; clear HM'; all_goals skip) | ((with_reducible apply own_alloc HM); exact rfl; (first | (with_reducible exact zeroE)); exact rfl; (first | (clear tg1; intro w' g1 HM') | (clear tg2; intro w' g2 HM') | (clear tg3; intro w' g3 HM') | (clear tg4; intro w' g4 HM') | intro w' g' HM'); clear HM; have HM := HM'; clear HM'; all_goals skip) | ((with_reducible apply own_cell HM); exact rfl; exact rfl; (first | (with_reducible exact oneInt) | (with_reducible exact oneBool) | (with_reducible exact oneU8)); (first | with_reducible exact .z | with_reducible exact .s .z | with_reducible exact .s (.s .z) | with_reducible exact .s (.s (.s .z)) | with_reducible exact .s (.s (.s (.s .z))) | with_reducible exact .s (.s (.s (.s (.s .z))))); (focus repeat' (first | with_reducible exact .z | with_reducible apply Drop.s)); exact rfl; all_goals skip) | ((with_reducible apply own_load HM); exact rfl; exact rfl; (first | (with_reducible exact aggE)); (first | with_reducible exact .z | with_reducible exact .s .z | with_reducible exact .s (.s .z) | with_reducible exact .s (.s (.s .z)) | with_reducible exact .s (.s (.s (.s .z))) | with_reducible exact .s (.s (.s (.s (.s .z))))); (focus repeat' (first | with_reducible exact .z | with_reducible apply Drop.s)); (focus repeat' (first | with_reducible exact .z | with_reducible apply Take.s)); exact rfl; all_goals skip) | ((with_reducible apply own_store HM); exact rfl; exact rfl; (conv => lhs; whnf); exact rfl; (first | with_reducible exact .z | with_reducible exact .s .z | with_reducible exact .s (.s .z) | with_reducible exact .s (.s (.s .z)) | with_reducible exact .s (.s (.s (.s .z))) | with_reducible exact .s (.s (.s (.s (.s .z))))); (focus repeat' (first | with_reducible exact .z | with_reducible apply Over.p | with_reducible apply Over.s)); (first | with_reducible exact .z | with_reducible exact .s .z | with_reducible exact .s (.s .z) | with_reducible exact .s (.s (.s .z)) | with_reducible exact .s (.s (.s (.s .z))) | with_reducible exact .s (.s (.s (.s (.s .z))))); (first | (with_reducible exact (aggE).size) | (with_reducible exact (oneInt).size) | (with_reducible exact (oneBool).size) | (with_reducible exact (oneU8).size)); exact rfl; exact rfl; exact rfl; exact rfl; intro w' HM'; clear HM; have HM := HM'; clear HM'; all_goals skip) | (go_at_call 10; (with_reducible refine (alive_any _).mono ?_); rintro e w' ⟨rfl, hb⟩; have HM' := Lib.hid (HM.out.call hb); clear HM hb; have HM := HM'; clear HM'))
  go_loopw [6, 7, 8] (fun xv yv fv wr => ∃ (A f : Int), 0 ≤ f ∧ f ≤ fr ∧ 0 ≤ A ∧ A ≤ 1158 ∧ xv = .int .i64 A ∧ yv = .int .i64 f ∧ fv = .int .i64 f ∧ Hid (A = f * Q) ∧ Hid (Own w wr [(g1, 23, [.int .u8 r, .bool false, .bool false, .bool false, .bool false])])) (fun _ _ fv _ => (6 - intOf fv).toNat)
  case atStart => exact ⟨0, 0, by omega, by omega, by omega, by omega, rfl, rfl, rfl, by show (0 : Int) = 0 * Q; rw [Int.zero_mul], HM⟩
  case round =>
    clear HM
    obtain ⟨A, f, f0, f1, A0, A1, rfl, rfl, rfl, HA, HM⟩ := hrel
    by_cases hlt : f < fr
    · go_wp2_with (first | ((with_reducible apply own_box HM); exact rfl; (conv => lhs; whnf); exact rfl; exact rfl; (first | (clear tg1; intro w' g1 HM') | (clear tg2; intro w' g2 HM') | (clear tg3; intro w' g3 HM') | (clear tg4; intro w' g4 HM') | intro w' g' HM'); clear HM; have HM := HM'; clear HM'; all_goals skip) | ((with_reducible apply own_alloc HM); exact rfl; (first | (with_reducible exact zeroE)); exact rfl; (first | (clear tg1; intro w' g1 HM') | (clear tg2; intro w' g2 HM') | (clear tg3; intro w' g3 HM') | (clear tg4; intro w' g4 HM') | intro w' g' HM'); clear HM; have HM := HM'; clear HM'; all_goals skip) | ((with_reducible apply own_cell HM); exact rfl; exact rfl; (first | (with_reducible exact oneInt) | (with_reducible exact oneBool) | (with_reducible exact oneU8)); (first | with_reducible exact .z | with_reducible exact .s .z | with_reducible exact .s (.s .z) | with_reducible exact .s (.s (.s .z)) | with_reducible exact .s (.s (.s (.s .z))) | with_reducible exact .s (.s (.s (.s (.s .z))))); (focus repeat' (first | with_reducible exact .z | with_reducible apply Drop.s)); exact rfl; all_goals skip) | ((with_reducible apply own_load HM); exact rfl; exact rfl; (first | (with_reducible exact aggE)); (first | with_reducible exact .z | with_reducible exact .s .z | with_reducible exact .s (.s .z) | with_reducible exact .s (.s (.s .z)) | with_reducible exact .s (.s (.s (.s .z))) | with_reducible exact .s (.s (.s (.s (.s .z))))); (focus repeat' (first | with_reducible exact .z | with_reducible apply Drop.s)); (focus repeat' (first | with_reducible exact .z | with_reducible apply Take.s)); exact rfl; all_goals skip) | ((with_reducible apply own_store HM); exact rfl; exact rfl; (conv => lhs; whnf); exact rfl; (first | with_reducible exact .z | with_reducible exact .s .z | with_reducible exact .s (.s .z) | with_reducible exact .s (.s (.s .z)) | with_reducible exact .s (.s (.s (.s .z))) | with_reducible exact .s (.s (.s (.s (.s .z))))); (focus repeat' (first | with_reducible exact .z | with_reducible apply Over.p | with_reducible apply Over.s)); (first | with_reducible exact .z | with_reducible exact .s .z | with_reducible exact .s (.s .z) | with_reducible exact .s (.s (.s .z)) | with_reducible exact .s (.s (.s (.s .z))) | with_reducible exact .s (.s (.s (.s (.s .z))))); (first | (with_reducible exact (aggE).size) | (with_reducible exact (oneInt).size) | (with_reducible exact (oneBool).size) | (with_reducible exact (oneU8).size)); exact rfl; exact rfl; exact rfl; exact rfl; intro w' HM'; clear HM; have HM := HM'; clear HM'; all_goals skip))
      go_loopw [6, 7, 9] (fun xv yv pv wr => ∃ (X Y p c : Int), 0 ≤ X ∧ X ≤ 1500 ∧ 0 ≤ Y ∧ Y ≤ 7 ∧ 0 ≤ p ∧ p ≤ 262 ∧ 0 ≤ c ∧ c < 256 ∧ xv = .int .i64 X ∧ yv = .int .i64 Y ∧ pv = .int .i64 p ∧ Hid (Rel A Q f r p c X Y) ∧ Hid (Own w wr [(g1, 23, [.int .u8 c, .bool false, .bool false, .bool false, .bool false])])) (fun _ _ pv _ => (262 - intOf pv).toNat)
      case atStart =>
        refine ⟨A, f, 0, r, by omega, by omega, by omega, by omega, by decide, by decide, r0, r1, rfl, rfl, rfl, ?_, HM⟩
        left
        refine ⟨by decide, ?_, ?_, ?_⟩
        · rw [Int.zero_emod]; omega
        · rw [Int.zero_ediv]; omega
        · rw [if_neg (by decide)]; omega
      case round =>
        clear HM
        obtain ⟨X, Y, p, c, X0, X1, Y0, Y1, p0, p1, C0, C1, rfl, rfl, rfl, HR, HM⟩ := hrel
        by_cases hlp : p < 262
        · obtain ⟨N', L', F', HS⟩ := St.of c p r false false
          have hb := HS.out.bd C0 C1 r0 r1
          have hb1 := hb.1
          have hb2 := hb.2
          have HN := Lib.hid (HR.out.step hQ.out HS.out r0 p0 hlp)
          have HB := Lib.hid (HN.out.bd r0 (by omega) Q0 Q1)
          have HT1 : Hid (told true false false = 159) := rfl
          have HT2 : Hid (told false false false = 31) := rfl
          have w1 : bits .and .u8 159 128 = 128 := rfl
          have w2 : bits .and .u8 31 128 = 0 := rfl
          clear hb
          have HA2 := HA
          have A5 : Hid (A ≤ 965) := by
            show A ≤ 965
            have := Int.mul_le_mul_of_nonneg_right (show f ≤ 5 by omega) Q0
            rw [HA.out]; omega
          clear HA
          cases L' <;> cases F'
          all_goals
            go_wp2_with (first | ((with_reducible apply own_box HM); exact rfl; (conv => lhs; whnf); exact rfl; exact rfl; (first | (clear tg1; intro w' g1 HM') | (clear tg2; intro w' g2 HM') | (clear tg3; intro w' g3 HM') | (clear tg4; intro w' g4 HM') | intro w' g' HM'); clear HM; have HM := HM'; clear HM'; all_goals skip) | ((with_reducible apply own_alloc HM); exact rfl; (first | (with_reducible exact zeroE)); exact rfl; (first | (clear tg1; intro w' g1 HM') | (clear tg2; intro w' g2 HM') | (clear tg3; intro w' g3 HM') | (clear tg4; intro w' g4 HM') | intro w' g' HM'); clear HM; have HM := HM'; clear HM'; all_goals skip) | ((with_reducible apply own_cell HM); exact rfl; exact rfl; (first | (with_reducible exact oneInt) | (with_reducible exact oneBool) | (with_reducible exact oneU8)); (first | with_reducible exact .z | with_reducible exact .s .z | with_reducible exact .s (.s .z) | with_reducible exact .s (.s (.s .z)) | with_reducible exact .s (.s (.s (.s .z))) | with_reducible exact .s (.s (.s (.s (.s .z))))); (focus repeat' (first | with_reducible exact .z | with_reducible apply Drop.s)); exact rfl; all_goals skip) | ((with_reducible apply own_load HM); exact rfl; exact rfl; (first | (with_reducible exact aggE)); (first | with_reducible exact .z | with_reducible exact .s .z | with_reducible exact .s (.s .z) | with_reducible exact .s (.s (.s .z)) | with_reducible exact .s (.s (.s (.s .z))) | with_reducible exact .s (.s (.s (.s (.s .z))))); (focus repeat' (first | with_reducible exact .z | with_reducible apply Drop.s)); (focus repeat' (first | with_reducible exact .z | with_reducible apply Take.s)); exact rfl; all_goals skip) | ((with_reducible apply own_store HM); exact rfl; exact rfl; (conv => lhs; whnf); exact rfl; (first | with_reducible exact .z | with_reducible exact .s .z | with_reducible exact .s (.s .z) | with_reducible exact .s (.s (.s .z)) | with_reducible exact .s (.s (.s (.s .z))) | with_reducible exact .s (.s (.s (.s (.s .z))))); (focus repeat' (first | with_reducible exact .z | with_reducible apply Over.p | with_reducible apply Over.s)); (first | with_reducible exact .z | with_reducible exact .s .z | with_reducible exact .s (.s .z) | with_reducible exact .s (.s (.s .z)) | with_reducible exact .s (.s (.s (.s .z))) | with_reducible exact .s (.s (.s (.s (.s .z))))); (first | (with_reducible exact (aggE).size) | (with_reducible exact (oneInt).size) | (with_reducible exact (oneBool).size) | (with_reducible exact (oneU8).size)); exact rfl; exact rfl; exact rfl; exact rfl; intro w' HM'; clear HM; have HM := HM'; clear HM'; all_goals skip) | (go_at_call 8; (with_reducible refine (start_at c p r false false false false _ _ _ HS C0 C1 _).mono ?_); rintro e w' ⟨rfl, hb⟩; have HM' := Lib.hid (HM.out.call hb); clear HM hb; have HM := HM'; clear HM') | (go_at_call 13; (with_reducible refine (status_at N' _ true false false 159 HT1 _).mono ?_); rintro e w' ⟨rfl, hb⟩; have HM' := Lib.hid (HM.out.call hb); clear HM hb; have HM := HM'; clear HM') | (go_at_call 13; (with_reducible refine (status_at N' _ false false false 31 HT2 _).mono ?_); rintro e w' ⟨rfl, hb⟩; have HM' := Lib.hid (HM.out.call hb); clear HM hb; have HM := HM'; clear HM'))
            go_roundw
            case rel =>
              have a := HB.out
              have b := A5.out
              have HN2 := HN.out
              simp only [if_true, Bool.false_eq_true, if_false, Int.add_zero] at HN2 a
              refine ⟨_, _, p + 1, N', ?_, ?_, ?_, ?_, by omega, by omega, hb1, hb2, ?_, ?_, ?_, Lib.hid HN2, HM.out.forget⟩
              all_goals first | rfl | omega | go_num
            case measure => simp [intOf]; omega
        · obtain rfl : p = 262 := by omega
          have hq := HR.out
          have hb := hq.bd r0 p0 Q0 Q1
          rcases hq with ⟨q, -⟩ | ⟨-, rfl, rfl, rfl⟩
          · omega
          have A5 : A + Q ≤ 1158 := by
            have := Int.mul_le_mul_of_nonneg_right (show f ≤ 5 by omega) Q0
            rw [HA.out]; omega
          clear hb HR
          go_wp2_with (first | ((with_reducible apply own_box HM); exact rfl; (conv => lhs; whnf); exact rfl; exact rfl; (first | (clear tg1; intro w' g1 HM') | (clear tg2; intro w' g2 HM') | (clear tg3; intro w' g3 HM') | (clear tg4; intro w' g4 HM') | intro w' g' HM'); clear HM; have HM := HM'; clear HM'; all_goals skip) | ((with_reducible apply own_alloc HM); exact rfl; (first | (with_reducible exact zeroE)); exact rfl; (first | (clear tg1; intro w' g1 HM') | (clear tg2; intro w' g2 HM') | (clear tg3; intro w' g3 HM') | (clear tg4; intro w' g4 HM') | intro w' g' HM'); clear HM; have HM := HM'; clear HM'; all_goals skip) | ((with_reducible apply own_cell HM); exact rfl; exact rfl; (first | (with_reducible exact oneInt) | (with_reducible exact oneBool) | (with_reducible exact oneU8)); (first | with_reducible exact .z | with_reducible exact .s .z | with_reducible exact .s (.s .z) | with_reducible exact .s (.s (.s .z)) | with_reducible exact .s (.s (.s (.s .z))) | with_reducible exact .s (.s (.s (.s (.s .z))))); (focus repeat' (first | with_reducible exact .z | with_reducible apply Drop.s)); exact rfl; all_goals skip) | ((with_reducible apply own_load HM); exact rfl; exact rfl; (first | (with_reducible exact aggE)); (first | with_reducible exact .z | with_reducible exact .s .z | with_reducible exact .s (.s .z) | with_reducible exact .s (.s (.s .z)) | with_reducible exact .s (.s (.s (.s .z))) | with_reducible exact .s (.s (.s (.s (.s .z))))); (focus repeat' (first | with_reducible exact .z | with_reducible apply Drop.s)); (focus repeat' (first | with_reducible exact .z | with_reducible apply Take.s)); exact rfl; all_goals skip) | ((with_reducible apply own_store HM); exact rfl; exact rfl; (conv => lhs; whnf); exact rfl; (first | with_reducible exact .z | with_reducible exact .s .z | with_reducible exact .s (.s .z) | with_reducible exact .s (.s (.s .z)) | with_reducible exact .s (.s (.s (.s .z))) | with_reducible exact .s (.s (.s (.s (.s .z))))); (focus repeat' (first | with_reducible exact .z | with_reducible apply Over.p | with_reducible apply Over.s)); (first | with_reducible exact .z | with_reducible exact .s .z | with_reducible exact .s (.s .z) | with_reducible exact .s (.s (.s .z)) | with_reducible exact .s (.s (.s (.s .z))) | with_reducible exact .s (.s (.s (.s (.s .z))))); (first | (with_reducible exact (aggE).size) | (with_reducible exact (oneInt).size) | (with_reducible exact (oneBool).size) | (with_reducible exact (oneU8).size)); exact rfl; exact rfl; exact rfl; exact rfl; intro w' HM'; clear HM; have HM := HM'; clear HM'; all_goals skip))
          go_roundw
          case rel =>
            refine ⟨A + Q, f + 1, by omega, by omega, by omega, A5, rfl, rfl, by go_num, ?_, HM⟩
            show A + Q = (f + 1) * Q
            rw [HA.out, Int.add_mul]; omega
          case measure => simp [intOf]; omega
    · obtain rfl : f = fr := by omega
      have d1 : (193 : Int).tdiv (r + 1) = Q := by rw [Int.tdiv_eq_ediv_of_nonneg (by decide)]; exact hQ.out
      have d2 : (r + 1 == 0) = false := by rw [beq_eq_false_iff_ne]; omega
      have d3 : ¬ (r + 1 = 0) := by omega
      have d4 : f * Q = A := HA.out.symm
      go_wp2_with (first | ((with_reducible apply own_box HM); exact rfl; (conv => lhs; whnf); exact rfl; exact rfl; (first | (clear tg1; intro w' g1 HM') | (clear tg2; intro w' g2 HM') | (clear tg3; intro w' g3 HM') | (clear tg4; intro w' g4 HM') | intro w' g' HM'); clear HM; have HM := HM'; clear HM'; all_goals skip) | ((with_reducible apply own_alloc HM); exact rfl; (first | (with_reducible exact zeroE)); exact rfl; (first | (clear tg1; intro w' g1 HM') | (clear tg2; intro w' g2 HM') | (clear tg3; intro w' g3 HM') | (clear tg4; intro w' g4 HM') | intro w' g' HM'); clear HM; have HM := HM'; clear HM'; all_goals skip) | ((with_reducible apply own_cell HM); exact rfl; exact rfl; (first | (with_reducible exact oneInt) | (with_reducible exact oneBool) | (with_reducible exact oneU8)); (first | with_reducible exact .z | with_reducible exact .s .z | with_reducible exact .s (.s .z) | with_reducible exact .s (.s (.s .z)) | with_reducible exact .s (.s (.s (.s .z))) | with_reducible exact .s (.s (.s (.s (.s .z))))); (focus repeat' (first | with_reducible exact .z | with_reducible apply Drop.s)); exact rfl; all_goals skip) | ((with_reducible apply own_load HM); exact rfl; exact rfl; (first | (with_reducible exact aggE)); (first | with_reducible exact .z | with_reducible exact .s .z | with_reducible exact .s (.s .z) | with_reducible exact .s (.s (.s .z)) | with_reducible exact .s (.s (.s (.s .z))) | with_reducible exact .s (.s (.s (.s (.s .z))))); (focus repeat' (first | with_reducible exact .z | with_reducible apply Drop.s)); (focus repeat' (first | with_reducible exact .z | with_reducible apply Take.s)); exact rfl; all_goals skip) | ((with_reducible apply own_store HM); exact rfl; exact rfl; (conv => lhs; whnf); exact rfl; (first | with_reducible exact .z | with_reducible exact .s .z | with_reducible exact .s (.s .z) | with_reducible exact .s (.s (.s .z)) | with_reducible exact .s (.s (.s (.s .z))) | with_reducible exact .s (.s (.s (.s (.s .z))))); (focus repeat' (first | with_reducible exact .z | with_reducible apply Over.p | with_reducible apply Over.s)); (first | with_reducible exact .z | with_reducible exact .s .z | with_reducible exact .s (.s .z) | with_reducible exact .s (.s (.s .z)) | with_reducible exact .s (.s (.s (.s .z))) | with_reducible exact .s (.s (.s (.s (.s .z))))); (first | (with_reducible exact (aggE).size) | (with_reducible exact (oneInt).size) | (with_reducible exact (oneBool).size) | (with_reducible exact (oneU8).size)); exact rfl; exact rfl; exact rfl; exact rfl; intro w' HM'; clear HM; have HM := HM'; clear HM'; all_goals skip))
      go_ret
      exact ⟨rfl, Own.fin HM⟩

theorem counts_any (r fr : Int) (r0 : 0 ≤ r) (r1 : r < 256) (w : World) :
    Calls Try.prog 7 #[.int .u8 r, .int .i64 fr] w fun e w' => e = .returned (.bool true) ∧ Below w.heap.size w w' := by
  by_cases h : fr < 1 ∨ 6 < fr
  · exact counts_out r fr h w
  · exact counts_in r fr (by omega) (by omega) r0 r1 w

end Go.Proofs.Ytoinngodknffeaa
