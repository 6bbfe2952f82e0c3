/-
  The law PortColors returns true for any address and any bytes, and writes nothing that was there.
-/
import Derived.Test.YtbjghlcdbmooaaaPoTells
import Derived.RegionTactic
namespace Go.Proofs.Ytbjghlcdbmooaaa
open Go.RowKit

/-- behind k colors that were written from a on -/
structure ColAt (a : Nat) (xs : Nat → Nat) (k : Nat) (s : Pt) : Prop where
  ok : s.Ok
  co : s.co = 3
  ad : s.ad = a + k
  cr : ∀ j, j < k → s.cr.getD ((a + j) % 32) 0 = xs j % 64
  vr : s.vr = Pt.nil.vr
theorem ColAt.next {a k : Nat} {xs : Nat → Nat} {s : Pt} (h : ColAt a xs k s) (ha : a < 256) (hk : k < 32) (hx : xs k < 256) : ColAt a xs (k + 1) (s.write (xs k)) := by
  have hco : (s.setSe false).co = 3 := h.co
  have e : s.write (xs k) = ((((s.setSe false).setCr (s.ad % 32) (xs k % 64))).setBu (xs k)).on := by unfold Pt.write Pt.put; rw [if_pos hco]
  refine ⟨h.ok.write hx, by rw [e]; exact h.co, by rw [e]; show (s.ad + 1) % 16384 = _; rw [h.ad]; omega, fun j hj => ?_, by rw [e]; exact h.vr⟩
  rw [e]
  show (s.cr.set (s.ad % 32) (xs k % 64)).getD _ 0 = _
  rw [getD_set' _ _ _ _ (by rw [h.ok.c]; omega), h.ad]
  by_cases hjk : j = k
  · rw [hjk, if_pos rfl]
  · rw [if_neg (by omega)]
    exact h.cr j (by omega)
theorem col_start (a : Nat) (ha : a < 256) (xs : Nat → Nat) : ColAt a xs 0 ((Pt.control .nil a).control 192) := by
  have e1 : Pt.control .nil a = Pt.first .nil a := by unfold Pt.control; exact if_pos rfl
  rw [e1]
  have e2 : (Pt.first .nil a).control 192 = (Pt.first .nil a).second 192 := by
    unfold Pt.control
    rw [if_neg (show ¬ (Pt.first .nil a).se = false from Bool.noConfusion), if_neg (by decide), if_neg (by decide)]
  rw [e2]
  exact ⟨(Pt.nil_ok.first ha).second (by decide), rfl, show 192 % 64 * 256 + a = a + 0 by omega, fun j hj => by omega, rfl⟩
theorem and63 (v r : Nat) (hv : v < 256) (hr : v % 64 = r) : bits .and .u8 (v : Int) 63 = (r : Int) := by
  rw [u8_and v 63 (by omega) (by omega) (by omega) (by omega), Int.toNat_natCast, ← hr]; exact congrArg Nat.cast (Nat.and_two_pow_sub_one_eq_mod v 6)

set_option maxRecDepth 100000 in
set_option maxHeartbeats 400000 in
theorem colors_out (x : Nat) (a : Option Addr) (n cap : Nat) (hh : (32 : Int) < (n : Int)) (w : World) :
    Calls Try.prog 6 #[.int .u8 (x : Int), .slice a n cap] w fun e w' => e = .returned (.bool true) ∧ Below w.heap.size w w' := by
  have HM := Lib.hid (Own.start w)
  go_enter Try.func6, Try.ntmps6
  go_wp2_with (go_at_call 8; (with_reducible refine (alive_any _).mono ?_); rintro e w' ⟨rfl, hb⟩; replace HM := Lib.hid (HM.out.call hb); clear hb)
  go_ret
  exact ⟨rfl, Own.fin HM⟩

set_option maxRecDepth 100000 in
set_option maxHeartbeats 1600000 in
theorem colors_in (x : Nat) (hx : x < 256) (a : Option Addr) (n cap : Nat) (hn : n ≤ 32) (xs : Nat → Nat) (w : World) (hb : ByteRow w a n xs) :
    Calls Try.prog 6 #[.int .u8 (x : Int), .slice a n cap] w fun e w' => e = .returned (.bool true) ∧ Below w.heap.size w w' := by
  have HM := Lib.hid (Own.start w)
  have HT := Lib.hid (col_start x hx xs)
  have HBb := Lib.hid hb
  have hn2 : ¬ (32 : Int) < (n : Int) := by omega
  obtain ⟨s1, h1⟩ : ∃ s, Pt.control .nil x = s := ⟨_, rfl⟩
  have o1 : s1.Ok := by rw [← h1]; exact Pt.nil_ok.control hx
  obtain ⟨s2, h2⟩ : ∃ s, s1.control 192 = s := ⟨_, rfl⟩
  rw [h1, h2] at HT
  have H1 := Lib.hid h1
  have K2 : Hid (∀ (W0 w : World) (p : Nat) (l : Blks) (_ : Hid (Own W0 w (Po p s1 :: l))), Calls Try.prog 15 #[.pointer (some ⟨p, 0, none⟩), .int .u8 192] w fun e w' => e = .returned (.tuple #[]) ∧ Hid (Own W0 w' (Po p s2 :: l))) := fun _ _ _ _ h => by
    have := control_at 192 (by decide) o1 h
    rw [h2] at this
    exact this
  clear hb h1 h2
  go_enter Try.func6, Try.ntmps6
  go_wp2_with (first
    | (go_at_call 8; (with_reducible refine (alive_any _).mono ?_); rintro e w' ⟨rfl, hb⟩; replace HM := Lib.hid (HM.out.call hb); clear hb)
    | (go_at_call 9; (with_reducible refine (new_at HM).mono ?_); rintro e w' ⟨p, rfl, HM'⟩; clear HM; have HM := HM'; clear HM')
    | (go_at_call 15; (with_reducible refine (control_at x hx Pt.nil_ok HM).mono ?_); rw [H1.out]; rintro e w' ⟨rfl, HM'⟩; clear HM; have HM := HM'; clear HM')
    | (go_at_call 15; (with_reducible refine (K2.out _ _ _ _ HM).mono ?_); rintro e w' ⟨rfl, HM'⟩; clear HM; have HM := HM'; clear HM'))
  go_loopw [24] (fun at_ wr => ∃ (k : Nat) (s : Pt), k ≤ n ∧ at_ = .int .i64 (k : Int) ∧ Hid (ColAt x xs k s) ∧ Hid (Own w wr [Po p s])) (fun at_ _ => n - (intOf at_).toNat)
  case atStart => exact ⟨0, _, by omega, rfl, HT, HM⟩
  case round =>
    clear HM
    obtain ⟨k, s, hk, rfl, HK, HM⟩ := hrel
    have hs := HK.out.ok
    by_cases hlt : k < n
    · have hlt2 : (k : Int) < (n : Int) := by omega
      obtain ⟨g, o, rfl, hg, hc⟩ := HBb.out (by omega)
      obtain ⟨v, hv⟩ : ∃ v, xs k = v := ⟨_, rfl⟩
      have hck := (hc k hlt).1
      have hv1 := (hc k hlt).2
      rw [hv] at hck hv1
      have HC := Lib.hid hck
      have HN : Hid (ColAt x xs (k + 1) (s.write v)) := by
        have := HK.out.next hx (by omega) (by rw [hv]; exact hv1)
        rw [hv] at this
        exact this
      clear hk hc hv hck
      go_wp2_with (first
        | ((with_reducible apply own_old HM); exact rfl; exact rfl; exact oneU8; exact HC.out; exact rfl; exact rfl; all_goals skip)
        | (go_at_call 17; (with_reducible refine (write_at v hv1 hs HM).mono ?_); rintro e w' ⟨rfl, HM'⟩; clear HM; have HM := HM'; clear HM'))
      go_roundw
      case rel => exact ⟨k + 1, s.write v, by omega, by go_num, HN, HM⟩
      case measure => simp [intOf]; omega
    · have hlt2 : ¬ (k : Int) < (n : Int) := by omega
      obtain rfl : k = n := by omega
      have HV : Hid (∀ j, j < k → s.cr.getD ((x + j) % 32) 0 = xs j % 64) := HK.out.cr
      have HVr : Hid (s.vr = Pt.nil.vr) := HK.out.vr
      obtain ⟨m, hm⟩ : ∃ m, s.cr = m := ⟨_, rfl⟩
      have HL : Hid (m.length = 32) := by rw [← hm]; exact hs.c
      rw [hm] at HV
      have HMv := Lib.hid hm
      clear hlt hk HK HT hm
      go_wp2_with (first
        | (go_at_call 25; (with_reducible refine (cram_at hs HM).mono ?_); rw [HMv.out]; rintro e w' ⟨ga, cap2, ex, rfl, HM'⟩; have HM2 : Hid (Own w w' [Po p s, (ga, 5, n8 m ++ ex)]) := HM'.out.perm (List.Perm.swap _ _ _); clear HM HM'; have HM := HM2; clear HM2))
      go_loopw [36] (fun at_ wr => ∃ (i : Nat), i ≤ k ∧ at_ = .int .i64 (i : Int) ∧ Hid (Own w wr [Po p s, (ga, 5, n8 m ++ ex)])) (fun at_ _ => k - (intOf at_).toNat)
      case atStart => exact ⟨0, by omega, rfl, HM⟩
      case round =>
        clear HM
        obtain ⟨i, hk, rfl, HM⟩ := hrel
        by_cases hlt : i < k
        · have hlt2 : (i : Int) < (k : Int) := by omega
          obtain ⟨g, o, rfl, hg, hc⟩ := HBb.out (by omega)
          obtain ⟨v, hv⟩ : ∃ v, xs i = v := ⟨_, rfl⟩
          have hck := (hc i hlt).1
          have hv1 := (hc i hlt).2
          rw [hv] at hck hv1
          have HC := Lib.hid hck
          obtain ⟨j, hj⟩ : ∃ j, (x + i) % 32 = j := ⟨_, rfl⟩
          obtain ⟨r, hr⟩ : ∃ r, v % 64 = r := ⟨_, rfl⟩
          have e63 := and63 v r hv1 hr
          have hj1 : (j : Int) < 32 := by omega
          have hj2 : ((x : Int) + (i : Int)) % 32 = (j : Int) := by omega
          have hj3 : ((x : Int) + (i : Int)).tmod 32 = (j : Int) := by rw [Int.tmod_eq_emod_of_nonneg (by omega)]; exact hj2
          have hmj : m.getD j 0 = r := by have := HV.out i hlt; rw [hj, hv, hr] at this; exact this
          have HB0 : Hid ((n8 m ++ ex)[j]? = some (.int .u8 (r : Int))) := by
            show _ = _
            rw [List.getElem?_append_left (by rw [n8_length, HL.out]; omega), n8_get _ _ (by rw [HL.out]; omega), hmj]
          clear hk hc hv hck hj hmj hr
          go_wp2_with (first
            | ((with_reducible apply own_old HM); exact rfl; exact rfl; exact oneU8; exact HC.out; exact rfl; exact rfl; all_goals skip)
            | ((with_reducible apply own_get HM); exact rfl; exact rfl; exact oneU8; (with_reducible exact .s .z); exact HB0.out; exact rfl; all_goals skip))
          go_roundw
          case rel => exact ⟨i + 1, by omega, by go_num, HM⟩
          case measure => simp [intOf]; omega
        · have hlt2 : ¬ (i : Int) < (k : Int) := by omega
          clear hk
          go_wp2_with fail
          obtain ⟨W, hW⟩ : ∃ W, W = wr := ⟨_, rfl⟩
          have HMw : Own w W [Po p s] := by rw [hW]; exact HM.out.sub (List.Sublist.cons_cons _ (List.nil_sublist _))
          have HM0 : Hid (Own w W.drew [Po p s]) := HMw.drew
          rw [← hW]
          clear hW HM
          obtain ⟨Z, hZ⟩ : ∃ Z, Z = n8 (List.replicate 16384 0) := ⟨_, rfl⟩
          have m1 := made16384
          rw [← hZ] at m1
          have HM1 : Hid (Own w (W.alloc (.cells Z.toArray 5)).drew [(W.heap.size, 5, Z), Po p s]) := (HMw.new _ _).drew
          clear HMw
          obtain ⟨T, hT⟩ : ∃ T, Value.string T = tx (List.replicate 16384 0) := ⟨_, rfl⟩
          have cz : ∀ W : World, (convert 25 9 (.slice (some ⟨W.heap.size, 0, none⟩) 16384 16384)).run Try.prog (W.alloc (.cells Z.toArray 5)) = .ok (.string T) (W.alloc (.cells Z.toArray 5)) := fun W => by
            rw [hT, hZ]; exact text_whole ((Own.start W).new _ _) .z (List.length_replicate ..)
          have HZT : Hid (∀ {W0 w : World} {l : Blks} {g c : Nat}, Own W0 w l → Sel l g 5 Z → (convert 25 9 (.slice (some ⟨g, 0, none⟩) 16384 c)).run Try.prog w = .ok (.string T) w) := fun h hsel => by
            rw [hZ] at hsel; rw [hT]; exact text_whole h hsel (List.length_replicate ..)
          have HVT : Hid (∀ {W0 w : World} {l : Blks} {g c : Nat} {ex : List Value}, Own W0 w l → Sel l g 5 (n8 s.vr ++ ex) → (convert 25 9 (.slice (some ⟨g, 0, none⟩) 16384 c)).run Try.prog w = .ok (.string T) w) := fun h hsel => by
            rw [HVr.out] at hsel; rw [hT]; exact text_of h hsel (List.length_replicate ..)
          have cz2 := HZT.out (c := 16384) HM1.out .z
          clear hZ hT
          go_region_with (first
            | (go_at_call 24; (with_reducible refine (vram_at hs HM0).mono ?_); rintro e w' ⟨gv, cv, ev, rfl, HM'⟩; have cv1 := HVT.out (c := cv) HM'.out .z; have cv2 := HVT.out (c := cv) (HM'.out.new 5 Z) (.s .z); have HF' := HM')
            | (go_at_call 24; (with_reducible refine (vram_at hs (Lib.hid (HM1.out.perm (List.Perm.swap _ _ _)))).mono ?_); rintro e w' ⟨gv, cv, ev, rfl, HM'⟩; have cv1 := HVT.out (c := cv) HM'.out .z; have cv2 := HZT.out (c := 16384) HM'.out (.s (.s .z))))
          all_goals
            clear cv1 cv2 cz2
            go_wp2_with fail
            go_ret
            exact ⟨rfl, by first | exact Own.fin HM' | exact (HM'.out.new _ _).below⟩

theorem colors_any (x : Nat) (hx : x < 256) (a : Option Addr) (n cap : Nat) (xs : Nat → Nat) (w : World) (hb : ByteRow w a n xs) :
    Calls Try.prog 6 #[.int .u8 (x : Int), .slice a n cap] w fun e w' => e = .returned (.bool true) ∧ Below w.heap.size w w' := by
  by_cases hh : (32 : Int) < (n : Int)
  · exact colors_out x a n cap hh w
  · exact colors_in x hx a n cap (by omega) xs w hb

end Go.Proofs.Ytbjghlcdbmooaaa
