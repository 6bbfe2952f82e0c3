/-
  The law PortTells returns true for any address and any bytes, and writes nothing that was there.
-/
import Derived.Test.YtbjghlcdbmooaaaPoAlive
import Derived.Test.YtbjghlcdbmooaaaByteRow
namespace Go.Proofs.Ytbjghlcdbmooaaa
open Go.RowKit

/-- behind k bytes that were written from a on -/
structure TellAt (a : Nat) (xs : Nat → Nat) (k : Nat) (s : Pt) : Prop where
  ok : s.Ok
  co : s.co = 1
  ad : s.ad = (a + k) % 16384
  vr : ∀ j, j < k → s.vr.getD ((a + j) % 16384) 0 = xs j
theorem getD_set' (l : List Nat) (i j v : Nat) (hi : i < l.length) : (l.set i v).getD j 0 = if i = j then v else l.getD j 0 := by
  simp only [List.getD_eq_getElem?_getD, List.getElem?_set]
  split
  · first | rfl | (rw [if_pos hi]; rfl)
  · rfl
theorem TellAt.next {a k : Nat} {xs : Nat → Nat} {s : Pt} (h : TellAt a xs k s) (hk : k < 400) (hx : xs k < 256) : TellAt a xs (k + 1) (s.write (xs k)) := by
  have hco : ¬ (s.setSe false).co = 3 := by show ¬ s.co = 3; rw [h.co]; decide
  have e : s.write (xs k) = ((((s.setSe false).setVr s.ad (xs k))).setBu (xs k)).on := by unfold Pt.write Pt.put; rw [if_neg hco]
  refine ⟨h.ok.write hx, by rw [e]; exact h.co, by rw [e]; show (s.ad + 1) % 16384 = _; rw [h.ad]; omega, fun j hj => ?_⟩
  rw [e]
  show (s.vr.set s.ad (xs k)).getD _ 0 = _
  rw [getD_set' _ _ _ _ (by rw [h.ok.v]; exact h.ok.ad), h.ad]
  by_cases hjk : j = k
  · rw [hjk, if_pos rfl]
  · rw [if_neg (by omega)]
    exact h.vr j (by omega)
/-- behind k bytes that were read from a on -/
structure ReadAt (a : Nat) (m : List Nat) (k : Nat) (s : Pt) : Prop where
  ok : s.Ok
  vr : s.vr = m
  bu : s.bu = m.getD ((a + k) % 16384) 0
  ad : s.ad = (a + k + 1) % 16384
theorem ReadAt.next {a k : Nat} {m : List Nat} {s : Pt} (h : ReadAt a m k s) : ReadAt a m (k + 1) s.read :=
  ⟨h.ok.read, h.vr, by show s.vr.getD s.ad 0 = _; rw [h.vr, h.ad]; rfl, by show (s.ad + 1) % 16384 = _; rw [h.ad]; omega⟩
theorem tell_start (a lo hi : Nat) (ha : a < 16384) (hlo : a % 256 = lo) (hhi : a / 256 = hi) (xs : Nat → Nat) : TellAt a xs 0 ((Pt.control .nil lo).control (64 + hi)) := by
  have e1 : Pt.control .nil lo = Pt.first .nil lo := by unfold Pt.control; exact if_pos rfl
  rw [e1]
  have e2 : (Pt.first .nil lo).control (64 + hi) = (Pt.first .nil lo).second (64 + hi) := by
    unfold Pt.control
    rw [if_neg (show ¬ (Pt.first .nil lo).se = false from Bool.noConfusion), if_neg (by omega), if_neg (by omega)]
  rw [e2]
  exact ⟨(Pt.nil_ok.first (by omega)).second (by omega), show (64 + hi) / 64 = 1 by omega, show (64 + hi) % 64 * 256 + lo = (a + 0) % 16384 by omega, fun j hj => by omega⟩
theorem read_start (a lo hi : Nat) (ha : a < 16384) (hlo : a % 256 = lo) (hhi : a / 256 = hi) {s : Pt} (hs : s.Ok) (hse : s.se = false) : ReadAt a s.vr 0 ((s.control lo).control hi) := by
  have e1 : s.control lo = s.first lo := by unfold Pt.control; exact if_pos hse
  have o1 : (s.control lo).Ok := hs.control (by omega)
  rw [e1] at o1 ⊢
  have e2 : (s.first lo).control hi = ((s.first lo).second hi).ahead := by
    unfold Pt.control
    rw [if_neg (show ¬ (s.first lo).se = false from Bool.noConfusion), if_pos (by omega)]
  have o2 : ((s.first lo).control hi).Ok := o1.control (by omega)
  rw [e2] at o2 ⊢
  have e3 : hi % 64 * 256 + lo = a := by omega
  refine ⟨o2, rfl, ?_, ?_⟩
  · show s.vr.getD (hi % 64 * 256 + lo) 0 = _
    rw [e3, show (a + 0) % 16384 = a by omega]
  · show (hi % 64 * 256 + lo + 1) % 16384 = _
    rw [e3]
theorem write_se {s : Pt} (v : Nat) : (s.write v).se = false := by
  unfold Pt.write Pt.put
  split <;> rfl
theorem tell_se {a lo hi : Nat} (hhi : a / 256 = hi) (ha : a < 16384) : ((Pt.control .nil lo).control (64 + hi)).se = false := by
  have e1 : Pt.control .nil lo = Pt.first .nil lo := by unfold Pt.control; exact if_pos rfl
  rw [e1]
  unfold Pt.control
  rw [if_neg (show ¬ (Pt.first .nil lo).se = false from Bool.noConfusion), if_neg (by omega), if_neg (by omega)]
  rfl

set_option maxRecDepth 100000 in
set_option maxHeartbeats 400000 in
theorem tells_out (x : Int) (a : Option Addr) (n cap : Nat) (hh : (x < 0 ∨ 16383 < x) ∨ 400 < n) (w : World) :
    Calls Try.prog 5 #[.int .i64 x, .slice a n cap] w fun e w' => e = .returned (.bool true) ∧ Below w.heap.size w w' := by
  have HM := Lib.hid (Own.start w)
  have hn : (400 : Int) < (n : Int) ∨ ¬ (400 : Int) < (n : Int) := by omega
  by_cases h1 : x < 0
  case' neg =>
    by_cases h2 : 16383 < x
    case' neg => have h3 : (400 : Int) < (n : Int) := by omega
  all_goals
    clear hh hn
    go_enter Try.func5, Try.ntmps5
    go_wp2_with (go_at_call 8; (with_reducible refine (alive_any _).mono ?_); rintro e w' ⟨rfl, hb⟩; replace HM := Lib.hid (HM.out.call hb); clear hb)
    go_ret
    exact ⟨rfl, Own.fin HM⟩

set_option maxRecDepth 100000 in
set_option maxHeartbeats 1600000 in
theorem tells_in (x : Nat) (hx : x < 16384) (a : Option Addr) (n cap : Nat) (hn : n ≤ 400) (xs : Nat → Nat) (w : World) (hb : ByteRow w a n xs) :
    Calls Try.prog 5 #[.int .i64 (x : Int), .slice a n cap] w fun e w' => e = .returned (.bool true) ∧ Below w.heap.size w w' := by
  have HM := Lib.hid (Own.start w)
  obtain ⟨lo, hlo⟩ : ∃ k, x % 256 = k := ⟨_, rfl⟩
  obtain ⟨hi, hhi⟩ : ∃ k, x / 256 = k := ⟨_, rfl⟩
  obtain ⟨h2, hh2⟩ : ∃ k, k = 64 + hi := ⟨_, rfl⟩
  have l1 : lo < 256 := by omega
  have l2 : hi < 64 := by omega
  have l3 : h2 < 256 := by omega
  have e1 : (x : Int) % 256 = (lo : Int) := by omega
  have e2 : (x : Int) / 256 = (hi : Int) := by omega
  have e3 : (hi : Int) % 256 = (hi : Int) := by omega
  have e4 : bits .or .u8 64 (hi : Int) = (h2 : Int) := by
    rw [u8_or 64 hi (by omega) (by omega) (by omega) (by omega), Int.toNat_natCast, hh2]
    have := Nat.two_pow_add_eq_or_of_lt (i := 6) (b := hi) l2 1
    exact congrArg Nat.cast this.symm
  have HT : Hid (TellAt x xs 0 ((Pt.control .nil lo).control h2)) := by rw [hh2]; exact tell_start x lo hi hx hlo hhi xs
  have HSe : Hid (((Pt.control .nil lo).control h2).se = false) := by rw [hh2]; exact tell_se hhi hx
  have HR : Hid (∀ {s : Pt}, s.Ok → s.se = false → ReadAt x s.vr 0 ((s.control lo).control hi)) := fun hs hse => read_start x lo hi hx hlo hhi hs hse
  have HBb := Lib.hid hb
  have hn2 : ¬ (400 : Int) < (n : Int) := by omega
  have hx2 : (x : Int) < 16384 := by omega
  clear hlo hhi hh2 hb
  go_enter Try.func5, Try.ntmps5
  go_wp2_with (first
    | (go_at_call 8; (with_reducible refine (alive_any _).mono ?_); rintro e w' ⟨rfl, hb⟩; replace HM := Lib.hid (HM.out.call hb); clear hb)
    | (go_at_call 9; (with_reducible refine (new_at HM).mono ?_); rintro e w' ⟨p, rfl, HM'⟩; clear HM; have HM := HM'; clear HM')
    | (go_at_call 15; (with_reducible refine (control_at lo l1 Pt.nil_ok HM).mono ?_); rintro e w' ⟨rfl, HM'⟩; clear HM; have HM := HM'; clear HM')
    | (go_at_call 15; (with_reducible refine (control_at h2 l3 (Pt.nil_ok.control l1) HM).mono ?_); rintro e w' ⟨rfl, HM'⟩; clear HM; have HM := HM'; clear HM'))
  go_loopw [37] (fun at_ wr => ∃ (k : Nat) (s : Pt), k ≤ n ∧ at_ = .int .i64 (k : Int) ∧ Hid (TellAt x xs k s) ∧ Hid (s.se = false) ∧ Hid (Own w wr [Po p s])) (fun at_ _ => n - (intOf at_).toNat)
  case atStart => exact ⟨0, _, by omega, rfl, HT, HSe, HM⟩
  case round =>
    clear HM
    obtain ⟨k, s, hk, rfl, HK, HE, HM⟩ := hrel
    have hs := HK.out.ok
    by_cases hlt : k < n
    · have hlt2 : (k : Int) < (n : Int) := by omega
      obtain ⟨g, o, rfl, hg, hc⟩ := HBb.out (by omega)
      obtain ⟨v, hv⟩ : ∃ v, xs k = v := ⟨_, rfl⟩
      have hck := (hc k hlt).1
      have hv1 := (hc k hlt).2
      rw [hv] at hck hv1
      have HC := Lib.hid hck
      have HN : Hid (TellAt x xs (k + 1) (s.write v)) := by
        have := HK.out.next (by omega) (by rw [hv]; exact hv1)
        rw [hv] at this
        exact this
      clear hk hc hv hck
      go_wp2_with (first
        | ((with_reducible apply own_old HM); exact rfl; exact rfl; exact oneU8; exact HC.out; exact rfl; exact rfl; all_goals skip)
        | (go_at_call 17; (with_reducible refine (write_at v hv1 hs HM).mono ?_); rintro e w' ⟨rfl, HM'⟩; clear HM; have HM := HM'; clear HM'))
      go_roundw
      case rel => exact ⟨k + 1, s.write v, by omega, by go_num, HN, write_se v, HM⟩
      case measure => simp [intOf]; omega
    · have hlt2 : ¬ (k : Int) < (n : Int) := by omega
      obtain rfl : k = n := by omega
      obtain ⟨s1, hs1⟩ : ∃ s', s.control lo = s' := ⟨_, rfl⟩
      obtain ⟨s2, hs2⟩ : ∃ s', s1.control hi = s' := ⟨_, rfl⟩
      have o1 : s1.Ok := by rw [← hs1]; exact hs.control l1
      have o2 : s2.Ok := by rw [← hs2]; exact o1.control (by omega)
      have HR2 : Hid (ReadAt x s.vr 0 s2) := by
        have := HR.out hs HE.out
        rw [hs1, hs2] at this
        exact this
      have HS1 := Lib.hid hs1
      have HS2 := Lib.hid hs2
      have HV : Hid (∀ j, j < k → s.vr.getD ((x + j) % 16384) 0 = xs j) := HK.out.vr
      obtain ⟨m, hm⟩ : ∃ m, s.vr = m := ⟨_, rfl⟩
      have HL : Hid (m.length = 16384) := by rw [← hm]; exact hs.v
      have H8 : Hid (Lt 256 m) := by rw [← hm]; exact hs.v8
      rw [hm] at HV HR2
      have HMv : Hid (s2.vr = m) := HR2.out.vr
      clear hlt hk hs1 hs2 HK HT HR hm
      go_wp2_with (first
        | (go_at_call 15; (with_reducible refine (control_at lo l1 hs HM).mono ?_); rw [HS1.out]; rintro e w' ⟨rfl, HM'⟩; clear HM; have HM := HM'; clear HM')
        | (go_at_call 15; (with_reducible refine (control_at hi (by omega) o1 HM).mono ?_); rw [HS2.out]; rintro e w' ⟨rfl, HM'⟩; clear HM; have HM := HM'; clear HM')
        | (go_at_call 24; (with_reducible refine (vram_at o2 HM).mono ?_); rw [HMv.out]; rintro e w' ⟨ga, cap2, ex, rfl, HM'⟩; have HM2 : Hid (Own w w' [Po p s2, (ga, 5, n8 m ++ ex)]) := HM'.out.perm (List.Perm.swap _ _ _); clear HM HM'; have HM := HM2; clear HM2))
      go_loopw [58] (fun at_ wr => ∃ (i : Nat) (s : Pt), i ≤ k ∧ at_ = .int .i64 (i : Int) ∧ Hid (ReadAt x m i s) ∧ Hid (Own w wr [Po p s, (ga, 5, n8 m ++ ex)])) (fun at_ _ => k - (intOf at_).toNat)
      case atStart => exact ⟨0, s2, by omega, rfl, HR2, HM⟩
      case round =>
        clear HM
        obtain ⟨i, s3, hk, rfl, HK, HM⟩ := hrel
        have hs3 := HK.out.ok
        by_cases hlt : i < k
        · have hlt2 : (i : Int) < (k : Int) := by omega
          obtain ⟨g, o, rfl, hg, hc⟩ := HBb.out (by omega)
          obtain ⟨v, hv⟩ : ∃ v, xs i = v := ⟨_, rfl⟩
          have hck := (hc i hlt).1
          have hv1 := (hc i hlt).2
          rw [hv] at hck hv1
          have HC := Lib.hid hck
          have HN := Lib.hid HK.out.next
          obtain ⟨j, hj⟩ : ∃ j, (x + i) % 16384 = j := ⟨_, rfl⟩
          have hj1 : (j : Int) < 16384 := by omega
          have hj2 : ((x : Int) + (i : Int)) % 16384 = (j : Int) := by omega
          have hj3 : ((x : Int) + (i : Int)).tmod 16384 = (j : Int) := by rw [Int.tmod_eq_emod_of_nonneg (by omega)]; exact hj2
          have hmj : m.getD j 0 = v := by have := HV.out i hlt; rw [hj, hv] at this; exact this
          have HB0 : Hid ((n8 m ++ ex)[j]? = some (.int .u8 (v : Int))) := by
            show _ = _
            rw [List.getElem?_append_left (by rw [n8_length, HL.out]; omega), n8_get _ _ (by rw [HL.out]; omega), hmj]
          have HBu : Hid (s3.bu = v) := by show _ = _; rw [HK.out.bu, hj, hmj]
          clear hk hc hv hck hj hmj
          go_wp2_with (first
            | ((with_reducible apply own_old HM); exact rfl; exact rfl; exact oneU8; exact HC.out; exact rfl; exact rfl; all_goals skip)
            | ((with_reducible apply own_get HM); exact rfl; exact rfl; exact oneU8; (with_reducible exact .s .z); exact HB0.out; exact rfl; all_goals skip)
            | (go_at_call 19; (with_reducible refine (read_at hs3 HM).mono ?_); rw [HBu.out]; rintro e w' ⟨rfl, HM'⟩; clear HM; have HM := HM'; clear HM'))
          go_roundw
          case rel => exact ⟨i + 1, s3.read, by omega, by go_num, HN, HM⟩
          case measure => simp [intOf]; omega
        · have hlt2 : ¬ (i : Int) < (k : Int) := by omega
          clear hk
          go_wp2_with fail
          go_ret
          exact ⟨rfl, Own.fin HM⟩

theorem tells_any (x : Int) (a : Option Addr) (n cap : Nat) (xs : Nat → Nat) (w : World) (hb : ByteRow w a n xs) :
    Calls Try.prog 5 #[.int .i64 x, .slice a n cap] w fun e w' => e = .returned (.bool true) ∧ Below w.heap.size w w' := by
  by_cases hh : (x < 0 ∨ 16383 < x) ∨ 400 < n
  · exact tells_out x a n cap hh w
  · obtain ⟨y, rfl⟩ := Int.eq_ofNat_of_zero_le (show 0 ≤ x by omega)
    exact tells_in y (by omega) a n cap (by omega) xs w hb

end Go.Proofs.Ytbjghlcdbmooaaa

