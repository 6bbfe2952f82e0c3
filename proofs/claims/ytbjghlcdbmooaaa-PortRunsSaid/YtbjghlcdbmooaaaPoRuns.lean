/-
  The law PortRuns returns true for all acts, and writes nothing that was there.
-/
import Derived.Test.YtbjghlcdbmooaaaPoRuns0
import Derived.Deep.Cut
import Derived.Deep.CutRange
namespace Go.Proofs.Ytbjghlcdbmooaaa
open Go.RowKit

set_option maxRecDepth 100000 in
set_option maxHeartbeats 400000 in
theorem runs_out (a : Option Addr) (n cap : Nat) (hh : (300 : Int) < (n : Int)) (w : World) :
    Calls Try.prog 4 #[.slice a n cap] w fun e w' => e = .returned (.bool true) ∧ Below w.heap.size w w' := by
  have HM := Lib.hid (Own.start w)
  go_enter Try.func4, Try.ntmps4
  go_wp2_with (go_at_call 8; (with_reducible refine (alive_any _).mono ?_); rintro e w' ⟨rfl, hb⟩; replace HM := Lib.hid (HM.out.call hb); clear hb)
  go_ret
  exact ⟨rfl, Own.fin HM⟩

set_option maxRecDepth 100000 in
set_option maxHeartbeats 6400000 in
theorem runs_in (a : Option Addr) (n cap : Nat) (hn : n ≤ 300) (ac : Nat → Int × Int × Nat) (w : World) (ha : ActsIn w w.heap.size a n ac) :
    Calls Try.prog 4 #[.slice a n cap] w fun e w' => e = .returned (.bool true) ∧ Below w.heap.size w w' := by
  have HM := Lib.hid (Own.start w)
  have HA := Lib.hid ha
  have hn2 : ¬ (300 : Int) < (n : Int) := by omega
  have tg1 : Hid True := trivial
  clear ha
  go_enter Try.func4, Try.ntmps4
  go_wp2_with (first
    | (go_at_call 8; (with_reducible refine (alive_any _).mono ?_); rintro e w' ⟨rfl, hb⟩; replace HM := Lib.hid (HM.out.call hb); clear hb)
    | (go_at_call 9; (with_reducible refine (new_at HM).mono ?_); rintro e w' ⟨p, rfl, HM'⟩; clear HM; have HM := HM'; clear HM')
    | (go_at_call 14; (with_reducible refine (rnew_at HM).mono ?_); rintro e w' ⟨q, d, c, g, rfl, HM'⟩; clear HM; have HM := HM'; clear HM'))
  go_loopw [21, 4] (fun at_ wv wr => ∃ (k q d c g : Nat) (s : Pt), k ≤ n ∧ at_ = .int .i64 (k : Int) ∧ wv = .pointer (some ⟨q, 0, none⟩) ∧ Hid s.Ok ∧ Hid (Own w wr (Po p s :: Rp q d c g s []))) (fun at_ _ _ => n - (intOf at_).toNat)
  case atStart => exact ⟨0, q, d, c, g, .nil, by omega, rfl, rfl, Pt.nil_ok, HM.out.ahead⟩
  case round =>
    clear HM
    obtain ⟨k, q, d, c, g, s, hk, rfl, rfl, HO, HM⟩ := hrel
    have o1 := HO.out
    by_cases hlt : k < n
    · have hlt2 : (k : Int) < (n : Int) := by omega
      have hk3 : (k : Int) < 300 := by omega
      obtain ⟨ga, o, rfl, hg, hc⟩ := HA.out (by omega)
      obtain ⟨y0, y1, y2, y3⟩ := hc k hlt
      obtain ⟨⟨kind, at_, v⟩, hx⟩ : ∃ x, ac k = x := ⟨_, rfl⟩
      rw [hx] at y0 y1 y2 y3
      have Y0 := Lib.hid y0
      have Y1 := Lib.hid y1
      have Y2 := Lib.hid y2
      replace y3 : v < 256 := y3
      clear hk hc y0 y1 y2 hx
      go_upto_region 9 with (first
        | ((with_reducible apply own_box HM); exact rfl; (conv => lhs; whnf); exact rfl; exact rfl; (first | (clear tg1; intro w' g1 HM') | (clear tg2; intro w' g2 HM') | (clear tg3; intro w' g3 HM') | (clear tg4; intro w' g4 HM') | intro w' g' HM'); clear HM; have HM := HM'; clear HM'; all_goals skip) | ((with_reducible apply own_alloc HM); exact rfl; (first | (with_reducible exact zeroAct)); exact rfl; (first | (clear tg1; intro w' g1 HM') | (clear tg2; intro w' g2 HM') | (clear tg3; intro w' g3 HM') | (clear tg4; intro w' g4 HM') | intro w' g' HM'); clear HM; have HM := HM'; clear HM'; all_goals skip) | ((with_reducible apply own_cell HM); exact rfl; exact rfl; (first | (with_reducible exact oneInt) | (with_reducible exact oneU8)); (first | with_reducible exact .z | with_reducible exact .s .z | with_reducible exact .s (.s .z) | with_reducible exact .s (.s (.s .z)) | with_reducible exact .s (.s (.s (.s .z))) | with_reducible exact .s (.s (.s (.s (.s .z))))); (focus repeat' (first | with_reducible exact .z | with_reducible apply Drop.s)); exact rfl; all_goals skip) | ((with_reducible apply own_load HM); exact rfl; exact rfl; (first | (with_reducible exact aggAct)); (first | with_reducible exact .z | with_reducible exact .s .z | with_reducible exact .s (.s .z) | with_reducible exact .s (.s (.s .z)) | with_reducible exact .s (.s (.s (.s .z))) | with_reducible exact .s (.s (.s (.s (.s .z))))); (focus repeat' (first | with_reducible exact .z | with_reducible apply Drop.s)); (focus repeat' (first | with_reducible exact .z | with_reducible apply Take.s)); exact rfl; all_goals skip) | ((with_reducible apply own_store HM); exact rfl; exact rfl; (conv => lhs; whnf); exact rfl; (first | with_reducible exact .z | with_reducible exact .s .z | with_reducible exact .s (.s .z) | with_reducible exact .s (.s (.s .z)) | with_reducible exact .s (.s (.s (.s .z))) | with_reducible exact .s (.s (.s (.s (.s .z))))); (focus repeat' (first | with_reducible exact .z | with_reducible apply Over.p | with_reducible apply Over.s)); (first | with_reducible exact .z | with_reducible exact .s .z | with_reducible exact .s (.s .z) | with_reducible exact .s (.s (.s .z)) | with_reducible exact .s (.s (.s (.s .z))) | with_reducible exact .s (.s (.s (.s (.s .z))))); (first | (with_reducible exact (aggAct).size) | (with_reducible exact (oneInt).size) | (with_reducible exact (oneU8).size)); exact rfl; exact rfl; exact rfl; exact rfl; intro w' HM'; clear HM; have HM := HM'; clear HM'; all_goals skip)
        | ((with_reducible apply own_old3 HM); exact rfl; exact rfl; exact aggAct; exact Y0.out; exact Y1.out; exact Y2.out; exact rfl; all_goals skip))
      (try simp only [Act.put, List.setIfInBounds_toArray, List.set_cons_zero, List.set_cons_succ])
      obtain ⟨x, hxg⟩ : ∃ x, x = g1 := ⟨_, rfl⟩
      subst hxg
      replace HM : Hid (Own w _ (Po p s :: (x, 36, [.int .i64 kind, .int .i64 at_, .int .u8 (v : Int)]) :: Rp q d c g s [])) := HM.out.perm (List.Perm.swap _ _ _)
      go_cut [26] from 25 to 26 (fun s26 wx => s26 = .int .i64 kind ∧ Hid (Own w wx (Po p s :: (x, 36, [.int .i64 kind, .int .i64 at_, .int .u8 (v : Int)]) :: Rp q d c g s [])))
      case' first =>
        go_wp2_with (first | ((with_reducible apply own_box HM); exact rfl; (conv => lhs; whnf); exact rfl; exact rfl; (first | (clear tg1; intro w' g1 HM') | (clear tg2; intro w' g2 HM') | (clear tg3; intro w' g3 HM') | (clear tg4; intro w' g4 HM') | intro w' g' HM'); clear HM; have HM := HM'; clear HM'; all_goals skip) | ((with_reducible apply own_alloc HM); exact rfl; (first | (with_reducible exact zeroAct)); exact rfl; (first | (clear tg1; intro w' g1 HM') | (clear tg2; intro w' g2 HM') | (clear tg3; intro w' g3 HM') | (clear tg4; intro w' g4 HM') | intro w' g' HM'); clear HM; have HM := HM'; clear HM'; all_goals skip) | ((with_reducible apply own_cell HM); exact rfl; exact rfl; (first | (with_reducible exact oneInt) | (with_reducible exact oneU8)); (first | with_reducible exact .z | with_reducible exact .s .z | with_reducible exact .s (.s .z) | with_reducible exact .s (.s (.s .z)) | with_reducible exact .s (.s (.s (.s .z))) | with_reducible exact .s (.s (.s (.s (.s .z))))); (focus repeat' (first | with_reducible exact .z | with_reducible apply Drop.s)); exact rfl; all_goals skip) | ((with_reducible apply own_load HM); exact rfl; exact rfl; (first | (with_reducible exact aggAct)); (first | with_reducible exact .z | with_reducible exact .s .z | with_reducible exact .s (.s .z) | with_reducible exact .s (.s (.s .z)) | with_reducible exact .s (.s (.s (.s .z))) | with_reducible exact .s (.s (.s (.s (.s .z))))); (focus repeat' (first | with_reducible exact .z | with_reducible apply Drop.s)); (focus repeat' (first | with_reducible exact .z | with_reducible apply Take.s)); exact rfl; all_goals skip) | ((with_reducible apply own_store HM); exact rfl; exact rfl; (conv => lhs; whnf); exact rfl; (first | with_reducible exact .z | with_reducible exact .s .z | with_reducible exact .s (.s .z) | with_reducible exact .s (.s (.s .z)) | with_reducible exact .s (.s (.s (.s .z))) | with_reducible exact .s (.s (.s (.s (.s .z))))); (focus repeat' (first | with_reducible exact .z | with_reducible apply Over.p | with_reducible apply Over.s)); (first | with_reducible exact .z | with_reducible exact .s .z | with_reducible exact .s (.s .z) | with_reducible exact .s (.s (.s .z)) | with_reducible exact .s (.s (.s (.s .z))) | with_reducible exact .s (.s (.s (.s (.s .z))))); (first | (with_reducible exact (aggAct).size) | (with_reducible exact (oneInt).size) | (with_reducible exact (oneU8).size)); exact rfl; exact rfl; exact rfl; exact rfl; intro w' HM'; clear HM; have HM := HM'; clear HM'; all_goals skip))
        go_meet
        exact ⟨rfl, HM⟩
      case' rest =>
      clear HM
      obtain ⟨rfl, HM⟩ := hcut
      apply_assumption
      go_cut [4] from 27 to 93 (fun s4 wx => ∃ (q d c g : Nat) (s : Pt), s4 = .pointer (some ⟨q, 0, none⟩) ∧ Hid s.Ok ∧ Hid (Own w wx (Po p s :: (x, 36, [.int .i64 kind, .int .i64 at_, .int .u8 (v : Int)]) :: Rp q d c g s [])))
      case' first =>
        by_cases k0 : kind = 0
        · subst k0
          go_wp2_with (first
            | ((with_reducible apply own_box HM); exact rfl; (conv => lhs; whnf); exact rfl; exact rfl; (first | (clear tg1; intro w' g1 HM') | (clear tg2; intro w' g2 HM') | (clear tg3; intro w' g3 HM') | (clear tg4; intro w' g4 HM') | intro w' g' HM'); clear HM; have HM := HM'; clear HM'; all_goals skip) | ((with_reducible apply own_alloc HM); exact rfl; (first | (with_reducible exact zeroAct)); exact rfl; (first | (clear tg1; intro w' g1 HM') | (clear tg2; intro w' g2 HM') | (clear tg3; intro w' g3 HM') | (clear tg4; intro w' g4 HM') | intro w' g' HM'); clear HM; have HM := HM'; clear HM'; all_goals skip) | ((with_reducible apply own_cell HM); exact rfl; exact rfl; (first | (with_reducible exact oneInt) | (with_reducible exact oneU8)); (first | with_reducible exact .z | with_reducible exact .s .z | with_reducible exact .s (.s .z) | with_reducible exact .s (.s (.s .z)) | with_reducible exact .s (.s (.s (.s .z))) | with_reducible exact .s (.s (.s (.s (.s .z))))); (focus repeat' (first | with_reducible exact .z | with_reducible apply Drop.s)); exact rfl; all_goals skip) | ((with_reducible apply own_load HM); exact rfl; exact rfl; (first | (with_reducible exact aggAct)); (first | with_reducible exact .z | with_reducible exact .s .z | with_reducible exact .s (.s .z) | with_reducible exact .s (.s (.s .z)) | with_reducible exact .s (.s (.s (.s .z))) | with_reducible exact .s (.s (.s (.s (.s .z))))); (focus repeat' (first | with_reducible exact .z | with_reducible apply Drop.s)); (focus repeat' (first | with_reducible exact .z | with_reducible apply Take.s)); exact rfl; all_goals skip) | ((with_reducible apply own_store HM); exact rfl; exact rfl; (conv => lhs; whnf); exact rfl; (first | with_reducible exact .z | with_reducible exact .s .z | with_reducible exact .s (.s .z) | with_reducible exact .s (.s (.s .z)) | with_reducible exact .s (.s (.s (.s .z))) | with_reducible exact .s (.s (.s (.s (.s .z))))); (focus repeat' (first | with_reducible exact .z | with_reducible apply Over.p | with_reducible apply Over.s)); (first | with_reducible exact .z | with_reducible exact .s .z | with_reducible exact .s (.s .z) | with_reducible exact .s (.s (.s .z)) | with_reducible exact .s (.s (.s (.s .z))) | with_reducible exact .s (.s (.s (.s (.s .z))))); (first | (with_reducible exact (aggAct).size) | (with_reducible exact (oneInt).size) | (with_reducible exact (oneU8).size)); exact rfl; exact rfl; exact rfl; exact rfl; intro w' HM'; clear HM; have HM := HM'; clear HM'; all_goals skip)
            | (go_at_call 15; (with_reducible refine (control_at v y3 o1 HM).mono ?_); rintro e w' ⟨rfl, HM'⟩; clear HM; have HM := HM'; clear HM')
            | (go_at_call 16; (with_reducible refine (rcontrol_at v y3 o1 (Lib.hid HM.out.turn2)).mono ?_); rintro e w' ⟨rfl, HM'⟩; have HM2 := Lib.hid HM'.out.turn4; clear HM HM'; have HM := HM2; clear HM2))
          go_meet
          exact ⟨q, d, c, g, s.control v, rfl, o1.control y3, HM⟩
        · by_cases k1 : kind = 1
          · subst k1
            go_wp2_with (first
              | ((with_reducible apply own_box HM); exact rfl; (conv => lhs; whnf); exact rfl; exact rfl; (first | (clear tg1; intro w' g1 HM') | (clear tg2; intro w' g2 HM') | (clear tg3; intro w' g3 HM') | (clear tg4; intro w' g4 HM') | intro w' g' HM'); clear HM; have HM := HM'; clear HM'; all_goals skip) | ((with_reducible apply own_alloc HM); exact rfl; (first | (with_reducible exact zeroAct)); exact rfl; (first | (clear tg1; intro w' g1 HM') | (clear tg2; intro w' g2 HM') | (clear tg3; intro w' g3 HM') | (clear tg4; intro w' g4 HM') | intro w' g' HM'); clear HM; have HM := HM'; clear HM'; all_goals skip) | ((with_reducible apply own_cell HM); exact rfl; exact rfl; (first | (with_reducible exact oneInt) | (with_reducible exact oneU8)); (first | with_reducible exact .z | with_reducible exact .s .z | with_reducible exact .s (.s .z) | with_reducible exact .s (.s (.s .z)) | with_reducible exact .s (.s (.s (.s .z))) | with_reducible exact .s (.s (.s (.s (.s .z))))); (focus repeat' (first | with_reducible exact .z | with_reducible apply Drop.s)); exact rfl; all_goals skip) | ((with_reducible apply own_load HM); exact rfl; exact rfl; (first | (with_reducible exact aggAct)); (first | with_reducible exact .z | with_reducible exact .s .z | with_reducible exact .s (.s .z) | with_reducible exact .s (.s (.s .z)) | with_reducible exact .s (.s (.s (.s .z))) | with_reducible exact .s (.s (.s (.s (.s .z))))); (focus repeat' (first | with_reducible exact .z | with_reducible apply Drop.s)); (focus repeat' (first | with_reducible exact .z | with_reducible apply Take.s)); exact rfl; all_goals skip) | ((with_reducible apply own_store HM); exact rfl; exact rfl; (conv => lhs; whnf); exact rfl; (first | with_reducible exact .z | with_reducible exact .s .z | with_reducible exact .s (.s .z) | with_reducible exact .s (.s (.s .z)) | with_reducible exact .s (.s (.s (.s .z))) | with_reducible exact .s (.s (.s (.s (.s .z))))); (focus repeat' (first | with_reducible exact .z | with_reducible apply Over.p | with_reducible apply Over.s)); (first | with_reducible exact .z | with_reducible exact .s .z | with_reducible exact .s (.s .z) | with_reducible exact .s (.s (.s .z)) | with_reducible exact .s (.s (.s (.s .z))) | with_reducible exact .s (.s (.s (.s (.s .z))))); (first | (with_reducible exact (aggAct).size) | (with_reducible exact (oneInt).size) | (with_reducible exact (oneU8).size)); exact rfl; exact rfl; exact rfl; exact rfl; intro w' HM'; clear HM; have HM := HM'; clear HM'; all_goals skip)
              | (go_at_call 17; (with_reducible refine (write_at v y3 o1 HM).mono ?_); rintro e w' ⟨rfl, HM'⟩; clear HM; have HM := HM'; clear HM')
              | (go_at_call 18; (with_reducible refine (rwrite_at v y3 o1 (Lib.hid HM.out.turn2)).mono ?_); rintro e w' ⟨rfl, HM'⟩; have HM2 := Lib.hid HM'.out.turn4; clear HM HM'; have HM := HM2; clear HM2))
            go_meet
            exact ⟨q, d, c, g, s.write v, rfl, o1.write y3, HM⟩
          · by_cases k2 : kind = 2
            · subst k2
              go_wp2_with (first
                | ((with_reducible apply own_box HM); exact rfl; (conv => lhs; whnf); exact rfl; exact rfl; (first | (clear tg1; intro w' g1 HM') | (clear tg2; intro w' g2 HM') | (clear tg3; intro w' g3 HM') | (clear tg4; intro w' g4 HM') | intro w' g' HM'); clear HM; have HM := HM'; clear HM'; all_goals skip) | ((with_reducible apply own_alloc HM); exact rfl; (first | (with_reducible exact zeroAct)); exact rfl; (first | (clear tg1; intro w' g1 HM') | (clear tg2; intro w' g2 HM') | (clear tg3; intro w' g3 HM') | (clear tg4; intro w' g4 HM') | intro w' g' HM'); clear HM; have HM := HM'; clear HM'; all_goals skip) | ((with_reducible apply own_cell HM); exact rfl; exact rfl; (first | (with_reducible exact oneInt) | (with_reducible exact oneU8)); (first | with_reducible exact .z | with_reducible exact .s .z | with_reducible exact .s (.s .z) | with_reducible exact .s (.s (.s .z)) | with_reducible exact .s (.s (.s (.s .z))) | with_reducible exact .s (.s (.s (.s (.s .z))))); (focus repeat' (first | with_reducible exact .z | with_reducible apply Drop.s)); exact rfl; all_goals skip) | ((with_reducible apply own_load HM); exact rfl; exact rfl; (first | (with_reducible exact aggAct)); (first | with_reducible exact .z | with_reducible exact .s .z | with_reducible exact .s (.s .z) | with_reducible exact .s (.s (.s .z)) | with_reducible exact .s (.s (.s (.s .z))) | with_reducible exact .s (.s (.s (.s (.s .z))))); (focus repeat' (first | with_reducible exact .z | with_reducible apply Drop.s)); (focus repeat' (first | with_reducible exact .z | with_reducible apply Take.s)); exact rfl; all_goals skip) | ((with_reducible apply own_store HM); exact rfl; exact rfl; (conv => lhs; whnf); exact rfl; (first | with_reducible exact .z | with_reducible exact .s .z | with_reducible exact .s (.s .z) | with_reducible exact .s (.s (.s .z)) | with_reducible exact .s (.s (.s (.s .z))) | with_reducible exact .s (.s (.s (.s (.s .z))))); (focus repeat' (first | with_reducible exact .z | with_reducible apply Over.p | with_reducible apply Over.s)); (first | with_reducible exact .z | with_reducible exact .s .z | with_reducible exact .s (.s .z) | with_reducible exact .s (.s (.s .z)) | with_reducible exact .s (.s (.s (.s .z))) | with_reducible exact .s (.s (.s (.s (.s .z))))); (first | (with_reducible exact (aggAct).size) | (with_reducible exact (oneInt).size) | (with_reducible exact (oneU8).size)); exact rfl; exact rfl; exact rfl; exact rfl; intro w' HM'; clear HM; have HM := HM'; clear HM'; all_goals skip)
                | (go_at_call 19; (with_reducible refine (read_at o1 HM).mono ?_); rintro e w' ⟨rfl, HM'⟩; clear HM; have HM := HM'; clear HM')
                | (go_at_call 20; (with_reducible refine (rread_at o1 (Lib.hid HM.out.turn2)).mono ?_); rintro e w' ⟨rfl, HM'⟩; have HM2 := Lib.hid HM'.out.turn4; clear HM HM'; have HM := HM2; clear HM2))
              go_meet
              exact ⟨q, d, c, g, s.read, rfl, o1.read, HM⟩
            · by_cases k3 : kind = 3
              · subst k3
                go_wp2_with (first
                  | ((with_reducible apply own_box HM); exact rfl; (conv => lhs; whnf); exact rfl; exact rfl; (first | (clear tg1; intro w' g1 HM') | (clear tg2; intro w' g2 HM') | (clear tg3; intro w' g3 HM') | (clear tg4; intro w' g4 HM') | intro w' g' HM'); clear HM; have HM := HM'; clear HM'; all_goals skip) | ((with_reducible apply own_alloc HM); exact rfl; (first | (with_reducible exact zeroAct)); exact rfl; (first | (clear tg1; intro w' g1 HM') | (clear tg2; intro w' g2 HM') | (clear tg3; intro w' g3 HM') | (clear tg4; intro w' g4 HM') | intro w' g' HM'); clear HM; have HM := HM'; clear HM'; all_goals skip) | ((with_reducible apply own_cell HM); exact rfl; exact rfl; (first | (with_reducible exact oneInt) | (with_reducible exact oneU8)); (first | with_reducible exact .z | with_reducible exact .s .z | with_reducible exact .s (.s .z) | with_reducible exact .s (.s (.s .z)) | with_reducible exact .s (.s (.s (.s .z))) | with_reducible exact .s (.s (.s (.s (.s .z))))); (focus repeat' (first | with_reducible exact .z | with_reducible apply Drop.s)); exact rfl; all_goals skip) | ((with_reducible apply own_load HM); exact rfl; exact rfl; (first | (with_reducible exact aggAct)); (first | with_reducible exact .z | with_reducible exact .s .z | with_reducible exact .s (.s .z) | with_reducible exact .s (.s (.s .z)) | with_reducible exact .s (.s (.s (.s .z))) | with_reducible exact .s (.s (.s (.s (.s .z))))); (focus repeat' (first | with_reducible exact .z | with_reducible apply Drop.s)); (focus repeat' (first | with_reducible exact .z | with_reducible apply Take.s)); exact rfl; all_goals skip) | ((with_reducible apply own_store HM); exact rfl; exact rfl; (conv => lhs; whnf); exact rfl; (first | with_reducible exact .z | with_reducible exact .s .z | with_reducible exact .s (.s .z) | with_reducible exact .s (.s (.s .z)) | with_reducible exact .s (.s (.s (.s .z))) | with_reducible exact .s (.s (.s (.s (.s .z))))); (focus repeat' (first | with_reducible exact .z | with_reducible apply Over.p | with_reducible apply Over.s)); (first | with_reducible exact .z | with_reducible exact .s .z | with_reducible exact .s (.s .z) | with_reducible exact .s (.s (.s .z)) | with_reducible exact .s (.s (.s (.s .z))) | with_reducible exact .s (.s (.s (.s (.s .z))))); (first | (with_reducible exact (aggAct).size) | (with_reducible exact (oneInt).size) | (with_reducible exact (oneU8).size)); exact rfl; exact rfl; exact rfl; exact rfl; intro w' HM'; clear HM; have HM := HM'; clear HM'; all_goals skip)
                  | ((with_reducible apply po_put HM); exact rfl; exact rfl; (conv => lhs; whnf); (first | with_reducible exact .z | with_reducible exact .s .z | with_reducible exact .s (.s .z) | with_reducible exact .s (.s (.s .z)) | with_reducible exact .s (.s (.s (.s .z))) | with_reducible exact .s (.s (.s (.s (.s .z))))); (first | (with_reducible exact Pt.set_ad _ (by first | (with_reducible exact HZ.out) | (focus (obtain ⟨hz1, hz2, hz3⟩ := HZ.out; exact ⟨by simpa using hz1, by simpa using hz2, by simpa using hz3⟩)))) | (with_reducible exact Pt.set_co _ (by first | (with_reducible exact HZ.out) | (focus (obtain ⟨hz1, hz2, hz3⟩ := HZ.out; exact ⟨by simpa using hz1, by simpa using hz2, by simpa using hz3⟩)))) | (with_reducible exact Pt.set_lo _ (by first | (with_reducible exact HZ.out) | (focus (obtain ⟨hz1, hz2, hz3⟩ := HZ.out; exact ⟨by simpa using hz1, by simpa using hz2, by simpa using hz3⟩)))) | (with_reducible exact Pt.set_se _ (by first | (with_reducible exact HZ.out) | (focus (obtain ⟨hz1, hz2, hz3⟩ := HZ.out; exact ⟨by simpa using hz1, by simpa using hz2, by simpa using hz3⟩)))) | (with_reducible exact Pt.set_bu _ (by first | (with_reducible exact HZ.out) | (focus (obtain ⟨hz1, hz2, hz3⟩ := HZ.out; exact ⟨by simpa using hz1, by simpa using hz2, by simpa using hz3⟩)))) | (with_reducible exact Pt.set_vr _ _ (by first | (with_reducible exact HZ.out) | (focus (obtain ⟨hz1, hz2, hz3⟩ := HZ.out; exact ⟨by simpa using hz1, by simpa using hz2, by simpa using hz3⟩))) (by omega)) | (with_reducible exact Pt.set_cr _ _ (by first | (with_reducible exact HZ.out) | (focus (obtain ⟨hz1, hz2, hz3⟩ := HZ.out; exact ⟨by simpa using hz1, by simpa using hz2, by simpa using hz3⟩))) (by omega)) | (with_reducible exact Pt.set_rg _ _ (by first | (with_reducible exact HZ.out) | (focus (obtain ⟨hz1, hz2, hz3⟩ := HZ.out; exact ⟨by simpa using hz1, by simpa using hz2, by simpa using hz3⟩))) (by omega)) | (with_reducible exact Pt.rset_ad _) | (with_reducible exact Pt.rset_co _) | (with_reducible exact Pt.rset_lo _) | (with_reducible exact Pt.rset_bu _) | (with_reducible exact Pt.rset_se _) | (with_reducible exact n8_set _ _ _) | (with_reducible exact Pt.set_ad' (by first | (with_reducible exact HZ.out) | (focus (obtain ⟨hz1, hz2, hz3⟩ := HZ.out; exact ⟨by simpa using hz1, by simpa using hz2, by simpa using hz3⟩))) (by assumption)) | (with_reducible exact Pt.set_co' (by first | (with_reducible exact HZ.out) | (focus (obtain ⟨hz1, hz2, hz3⟩ := HZ.out; exact ⟨by simpa using hz1, by simpa using hz2, by simpa using hz3⟩))) (by assumption)) | (with_reducible exact Pt.set_lo' (by first | (with_reducible exact HZ.out) | (focus (obtain ⟨hz1, hz2, hz3⟩ := HZ.out; exact ⟨by simpa using hz1, by simpa using hz2, by simpa using hz3⟩))) (by assumption)) | (with_reducible exact Pt.set_bu' (by first | (with_reducible exact HZ.out) | (focus (obtain ⟨hz1, hz2, hz3⟩ := HZ.out; exact ⟨by simpa using hz1, by simpa using hz2, by simpa using hz3⟩))) (by assumption)) | (with_reducible exact Pt.rset_ad' (by assumption))  | (with_reducible exact Pt.rset_co' (by assumption))  | (with_reducible exact Pt.rset_lo' (by assumption))  | (with_reducible exact Pt.rset_bu' (by assumption))  | (with_reducible exact Pt.rset_se' (by assumption)) | (with_reducible exact Pt.set_co' (v := 0) (by first | (with_reducible exact HZ.out) | (focus (obtain ⟨hz1, hz2, hz3⟩ := HZ.out; exact ⟨by simpa using hz1, by simpa using hz2, by simpa using hz3⟩))) (by decide)) | (with_reducible exact Pt.rset_co' (v := 0) (by decide))  | (with_reducible exact Pt.set_co' (v := 1) (by first | (with_reducible exact HZ.out) | (focus (obtain ⟨hz1, hz2, hz3⟩ := HZ.out; exact ⟨by simpa using hz1, by simpa using hz2, by simpa using hz3⟩))) (by decide)) | (with_reducible exact Pt.rset_co' (v := 1) (by decide))  | (with_reducible exact Pt.set_co' (v := 2) (by first | (with_reducible exact HZ.out) | (focus (obtain ⟨hz1, hz2, hz3⟩ := HZ.out; exact ⟨by simpa using hz1, by simpa using hz2, by simpa using hz3⟩))) (by decide)) | (with_reducible exact Pt.rset_co' (v := 2) (by decide))  | (with_reducible exact Pt.set_co' (v := 3) (by first | (with_reducible exact HZ.out) | (focus (obtain ⟨hz1, hz2, hz3⟩ := HZ.out; exact ⟨by simpa using hz1, by simpa using hz2, by simpa using hz3⟩))) (by decide)) | (with_reducible exact Pt.rset_co' (v := 3) (by decide)) | (with_reducible exact Pt.set_vr' _ (by first | (with_reducible exact HZ.out) | (focus (obtain ⟨hz1, hz2, hz3⟩ := HZ.out; exact ⟨by simpa using hz1, by simpa using hz2, by simpa using hz3⟩))) (by omega) (by assumption)) | (with_reducible exact Pt.set_cr' _ (by first | (with_reducible exact HZ.out) | (focus (obtain ⟨hz1, hz2, hz3⟩ := HZ.out; exact ⟨by simpa using hz1, by simpa using hz2, by simpa using hz3⟩))) (by omega) (by assumption)) | (with_reducible exact Pt.set_rg' _ (by first | (with_reducible exact HZ.out) | (focus (obtain ⟨hz1, hz2, hz3⟩ := HZ.out; exact ⟨by simpa using hz1, by simpa using hz2, by simpa using hz3⟩))) (by omega) (by assumption)) | (with_reducible exact n8_set' _ _ (by assumption))); (first | with_reducible exact .z | with_reducible exact .s .z | with_reducible exact .s (.s .z) | with_reducible exact .s (.s (.s .z)) | with_reducible exact .s (.s (.s (.s .z))) | with_reducible exact .s (.s (.s (.s (.s .z))))); (first | (with_reducible exact oneU8.size) | (with_reducible exact oneU16.size) | (with_reducible exact oneBool.size) | (with_reducible exact oneInt.size)); exact rfl; exact rfl; (first | (focus (rw [Pt.cells_length (by first | (with_reducible exact HZ.out) | (focus (obtain ⟨hz1, hz2, hz3⟩ := HZ.out; exact ⟨by simpa using hz1, by simpa using hz2, by simpa using hz3⟩)))]; omega)) | (show (_ : Nat) < 8; decide) | (focus (rw [n8_length]; obtain ⟨hz1, hz2, hz3⟩ := HZ.out; omega))); exact rfl; intro w' HM'; clear HM; have HM := HM'; clear HM'; all_goals skip)
                  | (go_at_call 21; (with_reducible refine (forget_at o1 HM).mono ?_); rintro e w' ⟨rfl, HM'⟩; clear HM; have HM := HM'; clear HM'))
                go_meet
                exact ⟨q, d, c, g, s.setSe false, rfl, o1.setSe false, HM⟩
              · by_cases k4 : kind = 4
                · subst k4
                  have hdl := Lib.hid (Pt.dump_length o1)
                  have hd8 := Lib.hid (Pt.dump_lt o1)
                  go_upto_region 24 with (first
                    | ((with_reducible apply own_box HM); exact rfl; (conv => lhs; whnf); exact rfl; exact rfl; (first | (clear tg1; intro w' g1 HM') | (clear tg2; intro w' g2 HM') | (clear tg3; intro w' g3 HM') | (clear tg4; intro w' g4 HM') | intro w' g' HM'); clear HM; have HM := HM'; clear HM'; all_goals skip) | ((with_reducible apply own_alloc HM); exact rfl; (first | (with_reducible exact zeroAct)); exact rfl; (first | (clear tg1; intro w' g1 HM') | (clear tg2; intro w' g2 HM') | (clear tg3; intro w' g3 HM') | (clear tg4; intro w' g4 HM') | intro w' g' HM'); clear HM; have HM := HM'; clear HM'; all_goals skip) | ((with_reducible apply own_cell HM); exact rfl; exact rfl; (first | (with_reducible exact oneInt) | (with_reducible exact oneU8)); (first | with_reducible exact .z | with_reducible exact .s .z | with_reducible exact .s (.s .z) | with_reducible exact .s (.s (.s .z)) | with_reducible exact .s (.s (.s (.s .z))) | with_reducible exact .s (.s (.s (.s (.s .z))))); (focus repeat' (first | with_reducible exact .z | with_reducible apply Drop.s)); exact rfl; all_goals skip) | ((with_reducible apply own_load HM); exact rfl; exact rfl; (first | (with_reducible exact aggAct)); (first | with_reducible exact .z | with_reducible exact .s .z | with_reducible exact .s (.s .z) | with_reducible exact .s (.s (.s .z)) | with_reducible exact .s (.s (.s (.s .z))) | with_reducible exact .s (.s (.s (.s (.s .z))))); (focus repeat' (first | with_reducible exact .z | with_reducible apply Drop.s)); (focus repeat' (first | with_reducible exact .z | with_reducible apply Take.s)); exact rfl; all_goals skip) | ((with_reducible apply own_store HM); exact rfl; exact rfl; (conv => lhs; whnf); exact rfl; (first | with_reducible exact .z | with_reducible exact .s .z | with_reducible exact .s (.s .z) | with_reducible exact .s (.s (.s .z)) | with_reducible exact .s (.s (.s (.s .z))) | with_reducible exact .s (.s (.s (.s (.s .z))))); (focus repeat' (first | with_reducible exact .z | with_reducible apply Over.p | with_reducible apply Over.s)); (first | with_reducible exact .z | with_reducible exact .s .z | with_reducible exact .s (.s .z) | with_reducible exact .s (.s (.s .z)) | with_reducible exact .s (.s (.s (.s .z))) | with_reducible exact .s (.s (.s (.s (.s .z))))); (first | (with_reducible exact (aggAct).size) | (with_reducible exact (oneInt).size) | (with_reducible exact (oneU8).size)); exact rfl; exact rfl; exact rfl; exact rfl; intro w' HM'; clear HM; have HM := HM'; clear HM'; all_goals skip)
                    | (go_at_call 22; (with_reducible refine (rdump_at o1 (Lib.hid HM.out.turn2)).mono ?_); rintro e w' ⟨gd, cd, ex, rfl, hcd, HM'⟩; have HM2 : Hid (Own w w' [Po p s, (x, 36, [.int .i64 4, .int .i64 at_, .int .u8 (v : Int)]), (gd, 5, n8 s.dump ++ ex), (q, 42, s.rcells d c g), (d, 5, n8 s.vr), (c, 5, n8 s.cr), (g, 5, n8 s.rg)]) := HM'.out.perm (List.perm_append_comm (l₁ := [_, _, _, _, _]) (l₂ := [_, _])); clear HM HM'; have HM := HM2; clear HM2))
                  by_cases hb0 : at_ < 0
                  · obtain ⟨ds, hds⟩ : ∃ ds, s.dump = ds := ⟨_, rfl⟩
                    rw [hds] at HM hdl hd8
                    have DL := hdl
                    have D8 := hd8
                    have o2 := fun h : Pt.Right ds => Pt.load_ok h D8.out
                    by_cases hr : Pt.Right ds
                    · have HRi := Lib.hid hr
                      clear hr
                      go_wp2_with (first
                        | ((with_reducible apply own_box HM); exact rfl; (conv => lhs; whnf); exact rfl; exact rfl; (first | (clear tg1; intro w' g1 HM') | (clear tg2; intro w' g2 HM') | (clear tg3; intro w' g3 HM') | (clear tg4; intro w' g4 HM') | intro w' g' HM'); clear HM; have HM := HM'; clear HM'; all_goals skip) | ((with_reducible apply own_alloc HM); exact rfl; (first | (with_reducible exact zeroAct)); exact rfl; (first | (clear tg1; intro w' g1 HM') | (clear tg2; intro w' g2 HM') | (clear tg3; intro w' g3 HM') | (clear tg4; intro w' g4 HM') | intro w' g' HM'); clear HM; have HM := HM'; clear HM'; all_goals skip) | ((with_reducible apply own_cell HM); exact rfl; exact rfl; (first | (with_reducible exact oneInt) | (with_reducible exact oneU8)); (first | with_reducible exact .z | with_reducible exact .s .z | with_reducible exact .s (.s .z) | with_reducible exact .s (.s (.s .z)) | with_reducible exact .s (.s (.s (.s .z))) | with_reducible exact .s (.s (.s (.s (.s .z))))); (focus repeat' (first | with_reducible exact .z | with_reducible apply Drop.s)); exact rfl; all_goals skip) | ((with_reducible apply own_load HM); exact rfl; exact rfl; (first | (with_reducible exact aggAct)); (first | with_reducible exact .z | with_reducible exact .s .z | with_reducible exact .s (.s .z) | with_reducible exact .s (.s (.s .z)) | with_reducible exact .s (.s (.s (.s .z))) | with_reducible exact .s (.s (.s (.s (.s .z))))); (focus repeat' (first | with_reducible exact .z | with_reducible apply Drop.s)); (focus repeat' (first | with_reducible exact .z | with_reducible apply Take.s)); exact rfl; all_goals skip) | ((with_reducible apply own_store HM); exact rfl; exact rfl; (conv => lhs; whnf); exact rfl; (first | with_reducible exact .z | with_reducible exact .s .z | with_reducible exact .s (.s .z) | with_reducible exact .s (.s (.s .z)) | with_reducible exact .s (.s (.s (.s .z))) | with_reducible exact .s (.s (.s (.s (.s .z))))); (focus repeat' (first | with_reducible exact .z | with_reducible apply Over.p | with_reducible apply Over.s)); (first | with_reducible exact .z | with_reducible exact .s .z | with_reducible exact .s (.s .z) | with_reducible exact .s (.s (.s .z)) | with_reducible exact .s (.s (.s (.s .z))) | with_reducible exact .s (.s (.s (.s (.s .z))))); (first | (with_reducible exact (aggAct).size) | (with_reducible exact (oneInt).size) | (with_reducible exact (oneU8).size)); exact rfl; exact rfl; exact rfl; exact rfl; intro w' HM'; clear HM; have HM := HM'; clear HM'; all_goals skip)
                        | (go_at_call 23; (with_reducible refine (rload_at HM (.s (.s .z)) DL.out hcd D8.out).mono ?_); rintro e w' (⟨-, q2, d2, c2, g2, rfl, HM'⟩ | ⟨hno, -⟩); rotate_left; exact absurd HRi.out hno; have HM2 := Lib.hid (HM'.out.perm (List.perm_append_comm (l₁ := [_, _, _, _]) (l₂ := [_, _, _, _, _, _, _]))); clear HM HM'; have HM := HM2; clear HM2)
                        | (go_at_call 11; (with_reducible refine (load_good o1 HM (.s .z) DL.out hcd D8.out HRi.out).mono ?_); rintro e w' ⟨rfl, HM'⟩; clear HM; have HM := HM'; clear HM'))
                      go_meet
                      exact ⟨q2, d2, c2, g2, Pt.load ds, rfl, o2 HRi.out, HM.out.sub (.cons_cons _ (.cons_cons _ (.cons _ (.cons _ (.cons _ (.cons _ (.cons _ (List.Sublist.refl _))))))))⟩
                    · have HRi := Lib.hid hr
                      clear hr
                      go_wp2_with (first
                        | ((with_reducible apply own_box HM); exact rfl; (conv => lhs; whnf); exact rfl; exact rfl; (first | (clear tg1; intro w' g1 HM') | (clear tg2; intro w' g2 HM') | (clear tg3; intro w' g3 HM') | (clear tg4; intro w' g4 HM') | intro w' g' HM'); clear HM; have HM := HM'; clear HM'; all_goals skip) | ((with_reducible apply own_alloc HM); exact rfl; (first | (with_reducible exact zeroAct)); exact rfl; (first | (clear tg1; intro w' g1 HM') | (clear tg2; intro w' g2 HM') | (clear tg3; intro w' g3 HM') | (clear tg4; intro w' g4 HM') | intro w' g' HM'); clear HM; have HM := HM'; clear HM'; all_goals skip) | ((with_reducible apply own_cell HM); exact rfl; exact rfl; (first | (with_reducible exact oneInt) | (with_reducible exact oneU8)); (first | with_reducible exact .z | with_reducible exact .s .z | with_reducible exact .s (.s .z) | with_reducible exact .s (.s (.s .z)) | with_reducible exact .s (.s (.s (.s .z))) | with_reducible exact .s (.s (.s (.s (.s .z))))); (focus repeat' (first | with_reducible exact .z | with_reducible apply Drop.s)); exact rfl; all_goals skip) | ((with_reducible apply own_load HM); exact rfl; exact rfl; (first | (with_reducible exact aggAct)); (first | with_reducible exact .z | with_reducible exact .s .z | with_reducible exact .s (.s .z) | with_reducible exact .s (.s (.s .z)) | with_reducible exact .s (.s (.s (.s .z))) | with_reducible exact .s (.s (.s (.s (.s .z))))); (focus repeat' (first | with_reducible exact .z | with_reducible apply Drop.s)); (focus repeat' (first | with_reducible exact .z | with_reducible apply Take.s)); exact rfl; all_goals skip) | ((with_reducible apply own_store HM); exact rfl; exact rfl; (conv => lhs; whnf); exact rfl; (first | with_reducible exact .z | with_reducible exact .s .z | with_reducible exact .s (.s .z) | with_reducible exact .s (.s (.s .z)) | with_reducible exact .s (.s (.s (.s .z))) | with_reducible exact .s (.s (.s (.s (.s .z))))); (focus repeat' (first | with_reducible exact .z | with_reducible apply Over.p | with_reducible apply Over.s)); (first | with_reducible exact .z | with_reducible exact .s .z | with_reducible exact .s (.s .z) | with_reducible exact .s (.s (.s .z)) | with_reducible exact .s (.s (.s (.s .z))) | with_reducible exact .s (.s (.s (.s (.s .z))))); (first | (with_reducible exact (aggAct).size) | (with_reducible exact (oneInt).size) | (with_reducible exact (oneU8).size)); exact rfl; exact rfl; exact rfl; exact rfl; intro w' HM'; clear HM; have HM := HM'; clear HM'; all_goals skip)
                        | (go_at_call 23; (with_reducible refine (rload_at HM (.s (.s .z)) DL.out hcd D8.out).mono ?_); rintro e w' (⟨hyes, -⟩ | ⟨-, rfl, HM'⟩); exact absurd hyes HRi.out; clear HM; have HM := HM'; clear HM')
                        | (go_at_call 11; (with_reducible refine (load_bad HM (.s (.s .z)) DL.out hcd D8.out HRi.out).mono ?_); rintro e w' ⟨rfl, rfl⟩))
                      go_meet
                      exact ⟨q, d, c, g, s, rfl, o1, HM.out.sub (.cons_cons _ (.cons_cons _ (.cons _ (List.Sublist.refl _))))⟩
                  · by_cases hb1 : 16433 ≤ at_
                    · obtain ⟨ds, hds⟩ : ∃ ds, s.dump = ds := ⟨_, rfl⟩
                      rw [hds] at HM hdl hd8
                      have DL := hdl
                      have D8 := hd8
                      have hb2 : ¬ at_ < 16433 := by omega
                      have o2 := fun h : Pt.Right ds => Pt.load_ok h D8.out
                      by_cases hr : Pt.Right ds
                      · have HRi := Lib.hid hr
                        clear hr
                        go_wp2_with (first
                          | ((with_reducible apply own_box HM); exact rfl; (conv => lhs; whnf); exact rfl; exact rfl; (first | (clear tg1; intro w' g1 HM') | (clear tg2; intro w' g2 HM') | (clear tg3; intro w' g3 HM') | (clear tg4; intro w' g4 HM') | intro w' g' HM'); clear HM; have HM := HM'; clear HM'; all_goals skip) | ((with_reducible apply own_alloc HM); exact rfl; (first | (with_reducible exact zeroAct)); exact rfl; (first | (clear tg1; intro w' g1 HM') | (clear tg2; intro w' g2 HM') | (clear tg3; intro w' g3 HM') | (clear tg4; intro w' g4 HM') | intro w' g' HM'); clear HM; have HM := HM'; clear HM'; all_goals skip) | ((with_reducible apply own_cell HM); exact rfl; exact rfl; (first | (with_reducible exact oneInt) | (with_reducible exact oneU8)); (first | with_reducible exact .z | with_reducible exact .s .z | with_reducible exact .s (.s .z) | with_reducible exact .s (.s (.s .z)) | with_reducible exact .s (.s (.s (.s .z))) | with_reducible exact .s (.s (.s (.s (.s .z))))); (focus repeat' (first | with_reducible exact .z | with_reducible apply Drop.s)); exact rfl; all_goals skip) | ((with_reducible apply own_load HM); exact rfl; exact rfl; (first | (with_reducible exact aggAct)); (first | with_reducible exact .z | with_reducible exact .s .z | with_reducible exact .s (.s .z) | with_reducible exact .s (.s (.s .z)) | with_reducible exact .s (.s (.s (.s .z))) | with_reducible exact .s (.s (.s (.s (.s .z))))); (focus repeat' (first | with_reducible exact .z | with_reducible apply Drop.s)); (focus repeat' (first | with_reducible exact .z | with_reducible apply Take.s)); exact rfl; all_goals skip) | ((with_reducible apply own_store HM); exact rfl; exact rfl; (conv => lhs; whnf); exact rfl; (first | with_reducible exact .z | with_reducible exact .s .z | with_reducible exact .s (.s .z) | with_reducible exact .s (.s (.s .z)) | with_reducible exact .s (.s (.s (.s .z))) | with_reducible exact .s (.s (.s (.s (.s .z))))); (focus repeat' (first | with_reducible exact .z | with_reducible apply Over.p | with_reducible apply Over.s)); (first | with_reducible exact .z | with_reducible exact .s .z | with_reducible exact .s (.s .z) | with_reducible exact .s (.s (.s .z)) | with_reducible exact .s (.s (.s (.s .z))) | with_reducible exact .s (.s (.s (.s (.s .z))))); (first | (with_reducible exact (aggAct).size) | (with_reducible exact (oneInt).size) | (with_reducible exact (oneU8).size)); exact rfl; exact rfl; exact rfl; exact rfl; intro w' HM'; clear HM; have HM := HM'; clear HM'; all_goals skip)
                          | (go_at_call 23; (with_reducible refine (rload_at HM (.s (.s .z)) DL.out hcd D8.out).mono ?_); rintro e w' (⟨-, q2, d2, c2, g2, rfl, HM'⟩ | ⟨hno, -⟩); rotate_left; exact absurd HRi.out hno; have HM2 := Lib.hid (HM'.out.perm (List.perm_append_comm (l₁ := [_, _, _, _]) (l₂ := [_, _, _, _, _, _, _]))); clear HM HM'; have HM := HM2; clear HM2)
                          | (go_at_call 11; (with_reducible refine (load_good o1 HM (.s .z) DL.out hcd D8.out HRi.out).mono ?_); rintro e w' ⟨rfl, HM'⟩; clear HM; have HM := HM'; clear HM'))
                        go_meet
                        exact ⟨q2, d2, c2, g2, Pt.load ds, rfl, o2 HRi.out, HM.out.sub (.cons_cons _ (.cons_cons _ (.cons _ (.cons _ (.cons _ (.cons _ (.cons _ (List.Sublist.refl _))))))))⟩
                      · have HRi := Lib.hid hr
                        clear hr
                        go_wp2_with (first
                          | ((with_reducible apply own_box HM); exact rfl; (conv => lhs; whnf); exact rfl; exact rfl; (first | (clear tg1; intro w' g1 HM') | (clear tg2; intro w' g2 HM') | (clear tg3; intro w' g3 HM') | (clear tg4; intro w' g4 HM') | intro w' g' HM'); clear HM; have HM := HM'; clear HM'; all_goals skip) | ((with_reducible apply own_alloc HM); exact rfl; (first | (with_reducible exact zeroAct)); exact rfl; (first | (clear tg1; intro w' g1 HM') | (clear tg2; intro w' g2 HM') | (clear tg3; intro w' g3 HM') | (clear tg4; intro w' g4 HM') | intro w' g' HM'); clear HM; have HM := HM'; clear HM'; all_goals skip) | ((with_reducible apply own_cell HM); exact rfl; exact rfl; (first | (with_reducible exact oneInt) | (with_reducible exact oneU8)); (first | with_reducible exact .z | with_reducible exact .s .z | with_reducible exact .s (.s .z) | with_reducible exact .s (.s (.s .z)) | with_reducible exact .s (.s (.s (.s .z))) | with_reducible exact .s (.s (.s (.s (.s .z))))); (focus repeat' (first | with_reducible exact .z | with_reducible apply Drop.s)); exact rfl; all_goals skip) | ((with_reducible apply own_load HM); exact rfl; exact rfl; (first | (with_reducible exact aggAct)); (first | with_reducible exact .z | with_reducible exact .s .z | with_reducible exact .s (.s .z) | with_reducible exact .s (.s (.s .z)) | with_reducible exact .s (.s (.s (.s .z))) | with_reducible exact .s (.s (.s (.s (.s .z))))); (focus repeat' (first | with_reducible exact .z | with_reducible apply Drop.s)); (focus repeat' (first | with_reducible exact .z | with_reducible apply Take.s)); exact rfl; all_goals skip) | ((with_reducible apply own_store HM); exact rfl; exact rfl; (conv => lhs; whnf); exact rfl; (first | with_reducible exact .z | with_reducible exact .s .z | with_reducible exact .s (.s .z) | with_reducible exact .s (.s (.s .z)) | with_reducible exact .s (.s (.s (.s .z))) | with_reducible exact .s (.s (.s (.s (.s .z))))); (focus repeat' (first | with_reducible exact .z | with_reducible apply Over.p | with_reducible apply Over.s)); (first | with_reducible exact .z | with_reducible exact .s .z | with_reducible exact .s (.s .z) | with_reducible exact .s (.s (.s .z)) | with_reducible exact .s (.s (.s (.s .z))) | with_reducible exact .s (.s (.s (.s (.s .z))))); (first | (with_reducible exact (aggAct).size) | (with_reducible exact (oneInt).size) | (with_reducible exact (oneU8).size)); exact rfl; exact rfl; exact rfl; exact rfl; intro w' HM'; clear HM; have HM := HM'; clear HM'; all_goals skip)
                          | (go_at_call 23; (with_reducible refine (rload_at HM (.s (.s .z)) DL.out hcd D8.out).mono ?_); rintro e w' (⟨hyes, -⟩ | ⟨-, rfl, HM'⟩); exact absurd hyes HRi.out; clear HM; have HM := HM'; clear HM')
                          | (go_at_call 11; (with_reducible refine (load_bad HM (.s (.s .z)) DL.out hcd D8.out HRi.out).mono ?_); rintro e w' ⟨rfl, rfl⟩))
                        go_meet
                        exact ⟨q, d, c, g, s, rfl, o1, HM.out.sub (.cons_cons _ (.cons_cons _ (.cons _ (List.Sublist.refl _))))⟩
                    · obtain ⟨i, rfl⟩ := Int.eq_ofNat_of_zero_le (show 0 ≤ at_ by omega)
                      have hb2 : (i : Int) < 16433 := by omega
                      go_upto_region 26 with (first
                        | ((with_reducible apply own_box HM); exact rfl; (conv => lhs; whnf); exact rfl; exact rfl; (first | (clear tg1; intro w' g1 HM') | (clear tg2; intro w' g2 HM') | (clear tg3; intro w' g3 HM') | (clear tg4; intro w' g4 HM') | intro w' g' HM'); clear HM; have HM := HM'; clear HM'; all_goals skip) | ((with_reducible apply own_alloc HM); exact rfl; (first | (with_reducible exact zeroAct)); exact rfl; (first | (clear tg1; intro w' g1 HM') | (clear tg2; intro w' g2 HM') | (clear tg3; intro w' g3 HM') | (clear tg4; intro w' g4 HM') | intro w' g' HM'); clear HM; have HM := HM'; clear HM'; all_goals skip) | ((with_reducible apply own_cell HM); exact rfl; exact rfl; (first | (with_reducible exact oneInt) | (with_reducible exact oneU8)); (first | with_reducible exact .z | with_reducible exact .s .z | with_reducible exact .s (.s .z) | with_reducible exact .s (.s (.s .z)) | with_reducible exact .s (.s (.s (.s .z))) | with_reducible exact .s (.s (.s (.s (.s .z))))); (focus repeat' (first | with_reducible exact .z | with_reducible apply Drop.s)); exact rfl; all_goals skip) | ((with_reducible apply own_load HM); exact rfl; exact rfl; (first | (with_reducible exact aggAct)); (first | with_reducible exact .z | with_reducible exact .s .z | with_reducible exact .s (.s .z) | with_reducible exact .s (.s (.s .z)) | with_reducible exact .s (.s (.s (.s .z))) | with_reducible exact .s (.s (.s (.s (.s .z))))); (focus repeat' (first | with_reducible exact .z | with_reducible apply Drop.s)); (focus repeat' (first | with_reducible exact .z | with_reducible apply Take.s)); exact rfl; all_goals skip) | ((with_reducible apply own_store HM); exact rfl; exact rfl; (conv => lhs; whnf); exact rfl; (first | with_reducible exact .z | with_reducible exact .s .z | with_reducible exact .s (.s .z) | with_reducible exact .s (.s (.s .z)) | with_reducible exact .s (.s (.s (.s .z))) | with_reducible exact .s (.s (.s (.s (.s .z))))); (focus repeat' (first | with_reducible exact .z | with_reducible apply Over.p | with_reducible apply Over.s)); (first | with_reducible exact .z | with_reducible exact .s .z | with_reducible exact .s (.s .z) | with_reducible exact .s (.s (.s .z)) | with_reducible exact .s (.s (.s (.s .z))) | with_reducible exact .s (.s (.s (.s (.s .z))))); (first | (with_reducible exact (aggAct).size) | (with_reducible exact (oneInt).size) | (with_reducible exact (oneU8).size)); exact rfl; exact rfl; exact rfl; exact rfl; intro w' HM'; clear HM; have HM := HM'; clear HM'; all_goals skip)
                        | ((with_reducible apply po_put HM); exact rfl; exact rfl; (conv => lhs; whnf); (with_reducible exact .s (.s .z)); exact put_dump i v (by have := hdl.out; omega); (with_reducible exact .s (.s .z)); (with_reducible exact oneU8.size); exact rfl; exact rfl; (focus (rw [List.length_append, n8_length]; have := hdl.out; omega)); exact rfl; intro w' HM'; clear HM; have HM := HM'; clear HM'))
                      obtain ⟨ds, hds⟩ : ∃ ds, s.dump.set i v = ds := ⟨_, rfl⟩
                      have DL : Hid (ds.length = 16433) := by rw [← hds]; show _ = _; rw [List.length_set]; exact hdl.out
                      have D8 : Hid (Lt 256 ds) := by rw [← hds]; exact hd8.out.set i y3
                      rw [hds] at HM
                      have o2 := fun h : Pt.Right ds => Pt.load_ok h D8.out
                      by_cases hr : Pt.Right ds
                      · have HRi := Lib.hid hr
                        clear hr
                        go_wp2_with (first
                          | ((with_reducible apply own_box HM); exact rfl; (conv => lhs; whnf); exact rfl; exact rfl; (first | (clear tg1; intro w' g1 HM') | (clear tg2; intro w' g2 HM') | (clear tg3; intro w' g3 HM') | (clear tg4; intro w' g4 HM') | intro w' g' HM'); clear HM; have HM := HM'; clear HM'; all_goals skip) | ((with_reducible apply own_alloc HM); exact rfl; (first | (with_reducible exact zeroAct)); exact rfl; (first | (clear tg1; intro w' g1 HM') | (clear tg2; intro w' g2 HM') | (clear tg3; intro w' g3 HM') | (clear tg4; intro w' g4 HM') | intro w' g' HM'); clear HM; have HM := HM'; clear HM'; all_goals skip) | ((with_reducible apply own_cell HM); exact rfl; exact rfl; (first | (with_reducible exact oneInt) | (with_reducible exact oneU8)); (first | with_reducible exact .z | with_reducible exact .s .z | with_reducible exact .s (.s .z) | with_reducible exact .s (.s (.s .z)) | with_reducible exact .s (.s (.s (.s .z))) | with_reducible exact .s (.s (.s (.s (.s .z))))); (focus repeat' (first | with_reducible exact .z | with_reducible apply Drop.s)); exact rfl; all_goals skip) | ((with_reducible apply own_load HM); exact rfl; exact rfl; (first | (with_reducible exact aggAct)); (first | with_reducible exact .z | with_reducible exact .s .z | with_reducible exact .s (.s .z) | with_reducible exact .s (.s (.s .z)) | with_reducible exact .s (.s (.s (.s .z))) | with_reducible exact .s (.s (.s (.s (.s .z))))); (focus repeat' (first | with_reducible exact .z | with_reducible apply Drop.s)); (focus repeat' (first | with_reducible exact .z | with_reducible apply Take.s)); exact rfl; all_goals skip) | ((with_reducible apply own_store HM); exact rfl; exact rfl; (conv => lhs; whnf); exact rfl; (first | with_reducible exact .z | with_reducible exact .s .z | with_reducible exact .s (.s .z) | with_reducible exact .s (.s (.s .z)) | with_reducible exact .s (.s (.s (.s .z))) | with_reducible exact .s (.s (.s (.s (.s .z))))); (focus repeat' (first | with_reducible exact .z | with_reducible apply Over.p | with_reducible apply Over.s)); (first | with_reducible exact .z | with_reducible exact .s .z | with_reducible exact .s (.s .z) | with_reducible exact .s (.s (.s .z)) | with_reducible exact .s (.s (.s (.s .z))) | with_reducible exact .s (.s (.s (.s (.s .z))))); (first | (with_reducible exact (aggAct).size) | (with_reducible exact (oneInt).size) | (with_reducible exact (oneU8).size)); exact rfl; exact rfl; exact rfl; exact rfl; intro w' HM'; clear HM; have HM := HM'; clear HM'; all_goals skip)
                          | (go_at_call 23; (with_reducible refine (rload_at HM (.s (.s .z)) DL.out hcd D8.out).mono ?_); rintro e w' (⟨-, q2, d2, c2, g2, rfl, HM'⟩ | ⟨hno, -⟩); rotate_left; exact absurd HRi.out hno; have HM2 := Lib.hid (HM'.out.perm (List.perm_append_comm (l₁ := [_, _, _, _]) (l₂ := [_, _, _, _, _, _, _]))); clear HM HM'; have HM := HM2; clear HM2)
                          | (go_at_call 11; (with_reducible refine (load_good o1 HM (.s .z) DL.out hcd D8.out HRi.out).mono ?_); rintro e w' ⟨rfl, HM'⟩; clear HM; have HM := HM'; clear HM'))
                        go_meet
                        exact ⟨q2, d2, c2, g2, Pt.load ds, rfl, o2 HRi.out, HM.out.sub (.cons_cons _ (.cons_cons _ (.cons _ (.cons _ (.cons _ (.cons _ (.cons _ (List.Sublist.refl _))))))))⟩
                      · have HRi := Lib.hid hr
                        clear hr
                        go_wp2_with (first
                          | ((with_reducible apply own_box HM); exact rfl; (conv => lhs; whnf); exact rfl; exact rfl; (first | (clear tg1; intro w' g1 HM') | (clear tg2; intro w' g2 HM') | (clear tg3; intro w' g3 HM') | (clear tg4; intro w' g4 HM') | intro w' g' HM'); clear HM; have HM := HM'; clear HM'; all_goals skip) | ((with_reducible apply own_alloc HM); exact rfl; (first | (with_reducible exact zeroAct)); exact rfl; (first | (clear tg1; intro w' g1 HM') | (clear tg2; intro w' g2 HM') | (clear tg3; intro w' g3 HM') | (clear tg4; intro w' g4 HM') | intro w' g' HM'); clear HM; have HM := HM'; clear HM'; all_goals skip) | ((with_reducible apply own_cell HM); exact rfl; exact rfl; (first | (with_reducible exact oneInt) | (with_reducible exact oneU8)); (first | with_reducible exact .z | with_reducible exact .s .z | with_reducible exact .s (.s .z) | with_reducible exact .s (.s (.s .z)) | with_reducible exact .s (.s (.s (.s .z))) | with_reducible exact .s (.s (.s (.s (.s .z))))); (focus repeat' (first | with_reducible exact .z | with_reducible apply Drop.s)); exact rfl; all_goals skip) | ((with_reducible apply own_load HM); exact rfl; exact rfl; (first | (with_reducible exact aggAct)); (first | with_reducible exact .z | with_reducible exact .s .z | with_reducible exact .s (.s .z) | with_reducible exact .s (.s (.s .z)) | with_reducible exact .s (.s (.s (.s .z))) | with_reducible exact .s (.s (.s (.s (.s .z))))); (focus repeat' (first | with_reducible exact .z | with_reducible apply Drop.s)); (focus repeat' (first | with_reducible exact .z | with_reducible apply Take.s)); exact rfl; all_goals skip) | ((with_reducible apply own_store HM); exact rfl; exact rfl; (conv => lhs; whnf); exact rfl; (first | with_reducible exact .z | with_reducible exact .s .z | with_reducible exact .s (.s .z) | with_reducible exact .s (.s (.s .z)) | with_reducible exact .s (.s (.s (.s .z))) | with_reducible exact .s (.s (.s (.s (.s .z))))); (focus repeat' (first | with_reducible exact .z | with_reducible apply Over.p | with_reducible apply Over.s)); (first | with_reducible exact .z | with_reducible exact .s .z | with_reducible exact .s (.s .z) | with_reducible exact .s (.s (.s .z)) | with_reducible exact .s (.s (.s (.s .z))) | with_reducible exact .s (.s (.s (.s (.s .z))))); (first | (with_reducible exact (aggAct).size) | (with_reducible exact (oneInt).size) | (with_reducible exact (oneU8).size)); exact rfl; exact rfl; exact rfl; exact rfl; intro w' HM'; clear HM; have HM := HM'; clear HM'; all_goals skip)
                          | (go_at_call 23; (with_reducible refine (rload_at HM (.s (.s .z)) DL.out hcd D8.out).mono ?_); rintro e w' (⟨hyes, -⟩ | ⟨-, rfl, HM'⟩); exact absurd hyes HRi.out; clear HM; have HM := HM'; clear HM')
                          | (go_at_call 11; (with_reducible refine (load_bad HM (.s (.s .z)) DL.out hcd D8.out HRi.out).mono ?_); rintro e w' ⟨rfl, rfl⟩))
                        go_meet
                        exact ⟨q, d, c, g, s, rfl, o1, HM.out.sub (.cons_cons _ (.cons_cons _ (.cons _ (List.Sublist.refl _))))⟩
                · go_wp2_with (first | ((with_reducible apply own_box HM); exact rfl; (conv => lhs; whnf); exact rfl; exact rfl; (first | (clear tg1; intro w' g1 HM') | (clear tg2; intro w' g2 HM') | (clear tg3; intro w' g3 HM') | (clear tg4; intro w' g4 HM') | intro w' g' HM'); clear HM; have HM := HM'; clear HM'; all_goals skip) | ((with_reducible apply own_alloc HM); exact rfl; (first | (with_reducible exact zeroAct)); exact rfl; (first | (clear tg1; intro w' g1 HM') | (clear tg2; intro w' g2 HM') | (clear tg3; intro w' g3 HM') | (clear tg4; intro w' g4 HM') | intro w' g' HM'); clear HM; have HM := HM'; clear HM'; all_goals skip) | ((with_reducible apply own_cell HM); exact rfl; exact rfl; (first | (with_reducible exact oneInt) | (with_reducible exact oneU8)); (first | with_reducible exact .z | with_reducible exact .s .z | with_reducible exact .s (.s .z) | with_reducible exact .s (.s (.s .z)) | with_reducible exact .s (.s (.s (.s .z))) | with_reducible exact .s (.s (.s (.s (.s .z))))); (focus repeat' (first | with_reducible exact .z | with_reducible apply Drop.s)); exact rfl; all_goals skip) | ((with_reducible apply own_load HM); exact rfl; exact rfl; (first | (with_reducible exact aggAct)); (first | with_reducible exact .z | with_reducible exact .s .z | with_reducible exact .s (.s .z) | with_reducible exact .s (.s (.s .z)) | with_reducible exact .s (.s (.s (.s .z))) | with_reducible exact .s (.s (.s (.s (.s .z))))); (focus repeat' (first | with_reducible exact .z | with_reducible apply Drop.s)); (focus repeat' (first | with_reducible exact .z | with_reducible apply Take.s)); exact rfl; all_goals skip) | ((with_reducible apply own_store HM); exact rfl; exact rfl; (conv => lhs; whnf); exact rfl; (first | with_reducible exact .z | with_reducible exact .s .z | with_reducible exact .s (.s .z) | with_reducible exact .s (.s (.s .z)) | with_reducible exact .s (.s (.s (.s .z))) | with_reducible exact .s (.s (.s (.s (.s .z))))); (focus repeat' (first | with_reducible exact .z | with_reducible apply Over.p | with_reducible apply Over.s)); (first | with_reducible exact .z | with_reducible exact .s .z | with_reducible exact .s (.s .z) | with_reducible exact .s (.s (.s .z)) | with_reducible exact .s (.s (.s (.s .z))) | with_reducible exact .s (.s (.s (.s (.s .z))))); (first | (with_reducible exact (aggAct).size) | (with_reducible exact (oneInt).size) | (with_reducible exact (oneU8).size)); exact rfl; exact rfl; exact rfl; exact rfl; intro w' HM'; clear HM; have HM := HM'; clear HM'; all_goals skip))
                  go_meet
                  exact ⟨q, d, c, g, s, rfl, o1, HM⟩
      case' rest =>
        clear HM HO o1
        obtain ⟨q, d, c, g, s, rfl, HO, HM⟩ := hcut
        have o1 := HO.out
        have HZ : Hid s.Sz := o1.sz
        have HLG : Hid (s.rg.length = 11) := o1.g
        obtain ⟨j0, hj0⟩ : ∃ j0, Hid (j0 = min at_ 10) := ⟨_, rfl⟩
        obtain ⟨j, hj⟩ : ∃ j : Nat, Hid ((j : Int) = max 0 j0) := ⟨(max 0 j0).toNat, by show _ = _; omega⟩
        have hj1 : (j : Int) < 11 := by have h1 := hj0.out; have h2 := hj.out; omega
        obtain ⟨T, hT⟩ : ∃ T, Hid (Value.string T = tx s.rg) := ⟨_, rfl⟩
        have HTXG := hT
        go_upto_region 33 with (first
          | ((with_reducible apply own_box HM); exact rfl; (conv => lhs; whnf); exact rfl; exact rfl; (first | (clear tg1; intro w' g1 HM') | (clear tg2; intro w' g2 HM') | (clear tg3; intro w' g3 HM') | (clear tg4; intro w' g4 HM') | intro w' g' HM'); clear HM; have HM := HM'; clear HM'; all_goals skip) | ((with_reducible apply own_alloc HM); exact rfl; (first | (with_reducible exact zeroAct)); exact rfl; (first | (clear tg1; intro w' g1 HM') | (clear tg2; intro w' g2 HM') | (clear tg3; intro w' g3 HM') | (clear tg4; intro w' g4 HM') | intro w' g' HM'); clear HM; have HM := HM'; clear HM'; all_goals skip) | ((with_reducible apply own_cell HM); exact rfl; exact rfl; (first | (with_reducible exact oneInt) | (with_reducible exact oneU8)); (first | with_reducible exact .z | with_reducible exact .s .z | with_reducible exact .s (.s .z) | with_reducible exact .s (.s (.s .z)) | with_reducible exact .s (.s (.s (.s .z))) | with_reducible exact .s (.s (.s (.s (.s .z))))); (focus repeat' (first | with_reducible exact .z | with_reducible apply Drop.s)); exact rfl; all_goals skip) | ((with_reducible apply own_load HM); exact rfl; exact rfl; (first | (with_reducible exact aggAct)); (first | with_reducible exact .z | with_reducible exact .s .z | with_reducible exact .s (.s .z) | with_reducible exact .s (.s (.s .z)) | with_reducible exact .s (.s (.s (.s .z))) | with_reducible exact .s (.s (.s (.s (.s .z))))); (focus repeat' (first | with_reducible exact .z | with_reducible apply Drop.s)); (focus repeat' (first | with_reducible exact .z | with_reducible apply Take.s)); exact rfl; all_goals skip) | ((with_reducible apply own_store HM); exact rfl; exact rfl; (conv => lhs; whnf); exact rfl; (first | with_reducible exact .z | with_reducible exact .s .z | with_reducible exact .s (.s .z) | with_reducible exact .s (.s (.s .z)) | with_reducible exact .s (.s (.s (.s .z))) | with_reducible exact .s (.s (.s (.s (.s .z))))); (focus repeat' (first | with_reducible exact .z | with_reducible apply Over.p | with_reducible apply Over.s)); (first | with_reducible exact .z | with_reducible exact .s .z | with_reducible exact .s (.s .z) | with_reducible exact .s (.s (.s .z)) | with_reducible exact .s (.s (.s (.s .z))) | with_reducible exact .s (.s (.s (.s (.s .z))))); (first | (with_reducible exact (aggAct).size) | (with_reducible exact (oneInt).size) | (with_reducible exact (oneU8).size)); exact rfl; exact rfl; exact rfl; exact rfl; intro w' HM'; clear HM; have HM := HM'; clear HM'; all_goals skip)
          | (go_at_call 13; (with_reducible refine (regs_at o1 HM).mono ?_); rintro e w' ⟨rfl, HM'⟩; clear HM; have HM := HM'; clear HM')
          | ((with_reducible apply own_alloc HM); exact rfl; exact zero11; exact rfl; intro w' gb HM'; clear HM; have HM := HM'; clear HM')
          | ((with_reducible apply own_lay HM); exact rfl; exact rfl; exact rfl; (with_reducible exact .z); (with_reducible exact .z); exact agg11.size; (focus (rw [n8_length]; exact HLG.out)); exact rfl; exact List.all_eq_true.2 (n8_one _); exact rfl; exact rfl; intro w' HM'; clear HM; have HM := HM'; clear HM')
          | (with_reducible refine min_at rfl (.tmp 97) (.const (.int .i64 10)) _ rfl .i64 .i64 at_ 10 rfl rfl j0 hj0.out ?_)
          | (with_reducible refine max_at rfl (.const (.int .i64 0)) (.tmp 98) _ rfl .i64 .i64 0 j0 rfl rfl (j : Int) hj.out ?_))
        replace HM : Hid (Own w _ ((gb, 30, n8 s.rg) :: Po p s :: Rp q d c g s [])) := HM.out.sub (.cons_cons _ (.cons_cons _ (.cons _ (List.Sublist.refl _))))
        (refine own_region HM (by kernel_rfl) (by kernel_rfl) ?_; (try simp only [Act.put, List.setIfInBounds_toArray, List.set_cons_zero, List.set_cons_succ]); repeat ((fail_if_success (with_reducible refine wpQuiet_nil ?_)); first | go_big_quiet_skip | (go_big_quiet_want; first | ((with_reducible apply quiet_text HTXG.out); exact rfl; (first | with_reducible exact .z | with_reducible exact .s .z | with_reducible exact .s (.s .z) | with_reducible exact .s (.s (.s .z)) | with_reducible exact .s (.s (.s (.s .z))) | with_reducible exact .s (.s (.s (.s (.s .z))))); exact HLG.out; go_big_quiet_op; go_big_quiet_on) | ((with_reducible apply quiet_get); exact rfl; (first | (with_reducible exact oneU8) | (with_reducible exact oneU16) | (with_reducible exact oneBool) | (with_reducible exact oneInt) | (with_reducible exact oneBs)); (first | with_reducible exact .z | with_reducible exact .s .z | with_reducible exact .s (.s .z) | with_reducible exact .s (.s (.s .z)) | with_reducible exact .s (.s (.s (.s .z))) | with_reducible exact .s (.s (.s (.s (.s .z)))) | (with_reducible exact Sel.s HS.out)); (first | (with_reducible exact HB0.out) | (with_reducible exact HB1.out) | (with_reducible exact HB2.out) | (with_reducible exact HB3.out) | (with_reducible exact HB4.out) | (with_reducible exact HB5.out) | (with_reducible exact Pt.at_se' (by first | (with_reducible exact HZ.out) | (focus (obtain ⟨hz1, hz2, hz3⟩ := HZ.out; exact ⟨by simpa using hz1, by simpa using hz2, by simpa using hz3⟩))) (by assumption)) | (with_reducible exact Pt.at_co' (by first | (with_reducible exact HZ.out) | (focus (obtain ⟨hz1, hz2, hz3⟩ := HZ.out; exact ⟨by simpa using hz1, by simpa using hz2, by simpa using hz3⟩))) (by assumption)) | (with_reducible exact Pt.r_se' (by assumption)) | (with_reducible exact Pt.r_co' (by assumption)) | (with_reducible exact Pt.at_ad (by first | (with_reducible exact HZ.out) | (focus (obtain ⟨hz1, hz2, hz3⟩ := HZ.out; exact ⟨by simpa using hz1, by simpa using hz2, by simpa using hz3⟩)))) | (with_reducible exact Pt.at_co (by first | (with_reducible exact HZ.out) | (focus (obtain ⟨hz1, hz2, hz3⟩ := HZ.out; exact ⟨by simpa using hz1, by simpa using hz2, by simpa using hz3⟩)))) | (with_reducible exact Pt.at_lo (by first | (with_reducible exact HZ.out) | (focus (obtain ⟨hz1, hz2, hz3⟩ := HZ.out; exact ⟨by simpa using hz1, by simpa using hz2, by simpa using hz3⟩)))) | (with_reducible exact Pt.at_se (by first | (with_reducible exact HZ.out) | (focus (obtain ⟨hz1, hz2, hz3⟩ := HZ.out; exact ⟨by simpa using hz1, by simpa using hz2, by simpa using hz3⟩)))) | (with_reducible exact Pt.at_bu (by first | (with_reducible exact HZ.out) | (focus (obtain ⟨hz1, hz2, hz3⟩ := HZ.out; exact ⟨by simpa using hz1, by simpa using hz2, by simpa using hz3⟩)))) | (with_reducible exact Pt.at_vr (by first | (with_reducible exact HZ.out) | (focus (obtain ⟨hz1, hz2, hz3⟩ := HZ.out; exact ⟨by simpa using hz1, by simpa using hz2, by simpa using hz3⟩))) (by omega)) | (with_reducible exact Pt.at_rg (by first | (with_reducible exact HZ.out) | (focus (obtain ⟨hz1, hz2, hz3⟩ := HZ.out; exact ⟨by simpa using hz1, by simpa using hz2, by simpa using hz3⟩))) (by omega)) | (with_reducible exact Pt.r_vr) | (with_reducible exact Pt.r_cr) | (with_reducible exact Pt.r_rg) | (with_reducible exact Pt.r_ad) | (with_reducible exact Pt.r_co) | (with_reducible exact Pt.r_lo) | (with_reducible exact Pt.r_bu) | (with_reducible exact Pt.r_se) | (with_reducible exact n8_get' _ _ (by obtain ⟨hz1, hz2, hz3⟩ := HZ.out; omega) hX.out) | (with_reducible exact n8_get _ _ (by obtain ⟨hz1, hz2, hz3⟩ := HZ.out; omega))); go_big_quiet_op; go_big_quiet_on) | ((with_reducible apply quiet_call); exact fun w => rfl; (focus (go_simp; all_goals with_reducible rfl)); (intro wq HQ; first | (exact reg_q j hj1 HZ.out HQ (.s .z))); go_big_quiet_op; go_big_quiet_on) | (go_big_quiet_op; go_big_quiet_on) | (go_big_quiet_op; refine ⟨_, fun _ _ => rfl, ?_⟩; go_big_quiet_on))))
        refine wpQuiet_nil ?_
        intro w' HM'
        clear HM; have HM := HM'; clear HM'
        go_wp2_with fail
        go_roundw
        case rel => exact ⟨k + 1, q, d, c, g, s, by omega, by go_num, rfl, HO, HM.out.forget⟩
        case measure => simp [intOf]; omega
    · have hlt2 : ¬ (k : Int) < (n : Int) := by omega
      have hs := o1
      obtain ⟨TD, hTD⟩ : ∃ T, Hid (Value.string T = tx s.dump) := ⟨_, rfl⟩
      obtain ⟨TV, hTV⟩ : ∃ T, Hid (Value.string T = tx s.vr) := ⟨_, rfl⟩
      obtain ⟨TC, hTC⟩ : ∃ T, Hid (Value.string T = tx s.cr) := ⟨_, rfl⟩
      have HTD := hTD
      have HTV := hTV
      have HTC := hTC
      have HLD := Lib.hid (Pt.dump_length hs)
      have HLV : Hid (s.vr.length = 16384) := hs.v
      have HLC : Hid (s.cr.length = 32) := hs.c
      clear hk hTD hTV hTC
      go_upto_region 36 with fail
      refine wp_region_held (S := fun w' => Own w w' (Po p s :: Rp q d c g s [])) (by kernel_rfl) ?_
      replace HM := Lib.hid HM.out.drew
      change wpAnyH _ _ _ _ _ _ _ _ (World.drew _)
      refine h_take (i := 0) (d := 118) (v := .pointer (some ⟨p, 0, none⟩)) rfl rfl (by kernel_rfl) (by kernel_rfl) (by kernel_rfl) (fun _ _ _ h => h) (y_pure rfl (fun w => by go_simp)) HM.out ?_
      (try simp only [Act.put, List.setIfInBounds_toArray, List.set_cons_zero, List.set_cons_succ])
      refine h_take (i := 3) (d := 121) (v := .pointer (some ⟨q, 0, none⟩)) rfl rfl (by kernel_rfl) (by kernel_rfl) (by kernel_rfl) (fun _ _ _ h => h) (y_pure rfl (fun w => by go_simp)) HM.out ?_
      (try simp only [Act.put, List.setIfInBounds_toArray, List.set_cons_zero, List.set_cons_succ])
      refine wpAnyH_all (rs := [1]) (by kernel_rfl) (by simp) ?_
      intro i hi
      obtain rfl := List.mem_singleton.1 hi
      refine wpOp_of rfl rfl ?_
      refine w_call (f := 10) (args := #[.pointer (some ⟨p, 0, none⟩)]) (fun w => rfl) (by go_simp) ?_
      refine (dump_at hs HM).mono ?_
      rintro e w1 ⟨g1, c1, ex1, rfl, hc1, HM1⟩
      refine ⟨_, rfl, HM1.out.forget, ?_⟩
      change wpAnyH _ _ _ _ _ _ _ (Act.put _ (some 119) _) _
      (try simp only [Act.put, List.setIfInBounds_toArray, List.set_cons_zero, List.set_cons_succ])
      have HN1 : Hid (Own w w1 (Rp q d c g s [(g1, 5, n8 s.dump ++ ex1), Po p s])) := HM1.out.turn2
      refine wpAnyH_all (rs := [2, 4]) (by kernel_rfl) (by simp) ?_
      intro i hi
      simp only [List.mem_cons, List.not_mem_nil, or_false] at hi
      rcases hi with rfl | rfl
      · refine wpOp_of rfl rfl ?_
        refine w_text HM1 HTD.out rfl .z HLD.out rfl ?_
        refine ⟨HM1.out.forget, ?_⟩
        change wpAnyH _ _ _ _ _ _ _ (Act.put _ (some 120) _) _
        (try simp only [Act.put, List.setIfInBounds_toArray, List.set_cons_zero, List.set_cons_succ])
        refine wpAnyH_all (rs := [4]) (by kernel_rfl) (by simp) ?_
        intro i hi
        obtain rfl := List.mem_singleton.1 hi
        refine wpOp_of rfl rfl ?_
        refine w_call (f := 22) (args := #[.pointer (some ⟨q, 0, none⟩)]) (fun w => rfl) (by go_simp) ?_
        refine (rdump_at hs HN1).mono ?_
        rintro e w2 ⟨g2, c2, ex2, rfl, hc2, HM2⟩
        refine ⟨_, rfl, ((HM2.out.perm (List.perm_append_singleton (Po p s) [_, _, _, _, _, _])).sub (.cons_cons _ (.cons _ (.cons_cons _ (.cons_cons _ (.cons_cons _ (.cons_cons _ (List.nil_sublist _)))))))), ?_⟩
        change wpAnyH _ _ _ _ _ _ _ (Act.put _ (some 122) _) _
        (try simp only [Act.put, List.setIfInBounds_toArray, List.set_cons_zero, List.set_cons_succ])
        refine wpAnyH_all (rs := [5]) (by kernel_rfl) (by simp) ?_
        intro i hi
        obtain rfl := List.mem_singleton.1 hi
        refine wpOp_of rfl rfl ?_
        refine w_text HM2 HTD.out rfl .z HLD.out rfl ?_
        refine ⟨((HM2.out.perm (List.perm_append_singleton (Po p s) [_, _, _, _, _, _])).sub (.cons_cons _ (.cons _ (.cons_cons _ (.cons_cons _ (.cons_cons _ (.cons_cons _ (List.nil_sublist _)))))))), ?_⟩
        change wpAnyH _ _ _ _ _ _ _ (Act.put _ (some 123) _) _
        (try simp only [Act.put, List.setIfInBounds_toArray, List.set_cons_zero, List.set_cons_succ])
        refine h_take (i := 6) (d := 124) (v := .bool true) rfl rfl (by kernel_rfl) (by kernel_rfl) (by kernel_rfl) (fun _ _ _ h => h) (y_pure rfl (fun w => by go_simp)) ((HM2.out.perm (List.perm_append_singleton (Po p s) [_, _, _, _, _, _])).sub (.cons_cons _ (.cons _ (.cons_cons _ (.cons_cons _ (.cons_cons _ (.cons_cons _ (List.nil_sublist _)))))))) ?_
        (try simp only [Act.put, List.setIfInBounds_toArray, List.set_cons_zero, List.set_cons_succ])
        refine h_take (i := 7) (d := 125) (v := .bool true) rfl rfl (by kernel_rfl) (by kernel_rfl) (by kernel_rfl) (fun _ _ _ h => h) (y_pure rfl (fun w => by go_simp)) ((HM2.out.perm (List.perm_append_singleton (Po p s) [_, _, _, _, _, _])).sub (.cons_cons _ (.cons _ (.cons_cons _ (.cons_cons _ (.cons_cons _ (.cons_cons _ (List.nil_sublist _)))))))) ?_
        (try simp only [Act.put, List.setIfInBounds_toArray, List.set_cons_zero, List.set_cons_succ])
        refine h_take (i := 8) (d := 126) (v := .pointer (some ⟨p, 0, none⟩)) rfl rfl (by kernel_rfl) (by kernel_rfl) (by kernel_rfl) (fun _ _ _ h => h) (y_pure rfl (fun w => by go_simp)) ((HM2.out.perm (List.perm_append_singleton (Po p s) [_, _, _, _, _, _])).sub (.cons_cons _ (.cons _ (.cons_cons _ (.cons_cons _ (.cons_cons _ (.cons_cons _ (List.nil_sublist _)))))))) ?_
        (try simp only [Act.put, List.setIfInBounds_toArray, List.set_cons_zero, List.set_cons_succ])
        refine h_take (i := 11) (d := 129) (v := .pointer (some ⟨q, 0, none⟩)) rfl rfl (by kernel_rfl) (by kernel_rfl) (by kernel_rfl) (fun _ _ _ h => h) (y_pure rfl (fun w => by go_simp)) ((HM2.out.perm (List.perm_append_singleton (Po p s) [_, _, _, _, _, _])).sub (.cons_cons _ (.cons _ (.cons_cons _ (.cons_cons _ (.cons_cons _ (.cons_cons _ (List.nil_sublist _)))))))) ?_
        (try simp only [Act.put, List.setIfInBounds_toArray, List.set_cons_zero, List.set_cons_succ])
        refine h_take (i := 12) (d := 130) (v := .pointer (some ⟨q, 0, none⟩)) rfl rfl (by kernel_rfl) (by kernel_rfl) (by kernel_rfl) (fun _ _ _ h => h) (y_pure rfl (fun w => by go_simp)) ((HM2.out.perm (List.perm_append_singleton (Po p s) [_, _, _, _, _, _])).sub (.cons_cons _ (.cons _ (.cons_cons _ (.cons_cons _ (.cons_cons _ (.cons_cons _ (List.nil_sublist _)))))))) ?_
        (try simp only [Act.put, List.setIfInBounds_toArray, List.set_cons_zero, List.set_cons_succ])
        refine h_take (i := 13) (d := 131) (v := .pointer (some ⟨q, 0, none⟩)) rfl rfl (by kernel_rfl) (by kernel_rfl) (by kernel_rfl) (fun _ _ _ h => h) (y_pure rfl (fun w => by go_simp)) ((HM2.out.perm (List.perm_append_singleton (Po p s) [_, _, _, _, _, _])).sub (.cons_cons _ (.cons _ (.cons_cons _ (.cons_cons _ (.cons_cons _ (.cons_cons _ (List.nil_sublist _)))))))) ?_
        (try simp only [Act.put, List.setIfInBounds_toArray, List.set_cons_zero, List.set_cons_succ])
        refine h_take (i := 14) (d := 132) (v := .slice (some ⟨d, 0, none⟩) 16384 16384) rfl rfl (by kernel_rfl) (by kernel_rfl) (by kernel_rfl) (fun _ _ _ h => h) (y_get (g := q) (off := 0) rfl rfl oneBs (.s .z) Pt.r_vr rfl) ((HM2.out.perm (List.perm_append_singleton (Po p s) [_, _, _, _, _, _])).sub (.cons_cons _ (.cons _ (.cons_cons _ (.cons_cons _ (.cons_cons _ (.cons_cons _ (List.nil_sublist _)))))))) ?_
        (try simp only [Act.put, List.setIfInBounds_toArray, List.set_cons_zero, List.set_cons_succ])
        refine h_take (i := 15) (d := 133) (v := .string TV) rfl rfl (by kernel_rfl) (by kernel_rfl) (by kernel_rfl) (fun _ _ _ h => h) (y_text HTV.out rfl (.s (.s .z)) HLV.out rfl rfl) ((HM2.out.perm (List.perm_append_singleton (Po p s) [_, _, _, _, _, _])).sub (.cons_cons _ (.cons _ (.cons_cons _ (.cons_cons _ (.cons_cons _ (.cons_cons _ (List.nil_sublist _)))))))) ?_
        (try simp only [Act.put, List.setIfInBounds_toArray, List.set_cons_zero, List.set_cons_succ])
        have HN2 : Hid (Own w w2 (Po p s :: [(g2, 5, n8 s.dump ++ ex2), (q, 42, s.rcells d c g), (d, 5, n8 s.vr), (c, 5, n8 s.cr), (g, 5, n8 s.rg), (g1, 5, n8 s.dump ++ ex1)])) := HM2.out.perm (List.perm_append_singleton (Po p s) [_, _, _, _, _, _])
        refine wpAnyH_all (rs := [9]) (by kernel_rfl) (by simp) ?_
        intro i hi
        obtain rfl := List.mem_singleton.1 hi
        refine wpOp_of rfl rfl ?_
        refine w_call (f := 24) (args := #[.pointer (some ⟨p, 0, none⟩)]) (fun w => rfl) (by go_simp) ?_
        refine (vram_at hs HN2).mono ?_
        rintro e w3 ⟨g3, c3, ex3, rfl, HM3⟩
        refine ⟨_, rfl, ((HM3.out.forget).sub (.cons_cons _ (.cons _ (.cons_cons _ (.cons_cons _ (.cons_cons _ (.cons_cons _ (List.nil_sublist _)))))))), ?_⟩
        change wpAnyH _ _ _ _ _ _ _ (Act.put _ (some 127) _) _
        (try simp only [Act.put, List.setIfInBounds_toArray, List.set_cons_zero, List.set_cons_succ])
        refine wpAnyH_all (rs := [10]) (by kernel_rfl) (by simp) ?_
        intro i hi
        obtain rfl := List.mem_singleton.1 hi
        refine wpOp_of rfl rfl ?_
        refine w_text HM3 HTV.out rfl .z HLV.out rfl ?_
        refine ⟨((HM3.out.forget).sub (.cons_cons _ (.cons _ (.cons_cons _ (.cons_cons _ (.cons_cons _ (.cons_cons _ (List.nil_sublist _)))))))), ?_⟩
        change wpAnyH _ _ _ _ _ _ _ (Act.put _ (some 128) _) _
        (try simp only [Act.put, List.setIfInBounds_toArray, List.set_cons_zero, List.set_cons_succ])
        refine h_take (i := 16) (d := 134) (v := .bool true) rfl rfl (by kernel_rfl) (by kernel_rfl) (by kernel_rfl) (fun _ _ _ h => h) (y_pure rfl (fun w => by go_simp)) ((HM3.out.forget).sub (.cons_cons _ (.cons _ (.cons_cons _ (.cons_cons _ (.cons_cons _ (.cons_cons _ (List.nil_sublist _)))))))) ?_
        (try simp only [Act.put, List.setIfInBounds_toArray, List.set_cons_zero, List.set_cons_succ])
        refine h_take (i := 17) (d := 135) (v := .bool true) rfl rfl (by kernel_rfl) (by kernel_rfl) (by kernel_rfl) (fun _ _ _ h => h) (y_pure rfl (fun w => by go_simp)) ((HM3.out.forget).sub (.cons_cons _ (.cons _ (.cons_cons _ (.cons_cons _ (.cons_cons _ (.cons_cons _ (List.nil_sublist _)))))))) ?_
        (try simp only [Act.put, List.setIfInBounds_toArray, List.set_cons_zero, List.set_cons_succ])
        refine h_take (i := 18) (d := 136) (v := .bool true) rfl rfl (by kernel_rfl) (by kernel_rfl) (by kernel_rfl) (fun _ _ _ h => h) (y_pure rfl (fun w => by go_simp)) ((HM3.out.forget).sub (.cons_cons _ (.cons _ (.cons_cons _ (.cons_cons _ (.cons_cons _ (.cons_cons _ (List.nil_sublist _)))))))) ?_
        (try simp only [Act.put, List.setIfInBounds_toArray, List.set_cons_zero, List.set_cons_succ])
        refine h_take (i := 19) (d := 137) (v := .pointer (some ⟨p, 0, none⟩)) rfl rfl (by kernel_rfl) (by kernel_rfl) (by kernel_rfl) (fun _ _ _ h => h) (y_pure rfl (fun w => by go_simp)) ((HM3.out.forget).sub (.cons_cons _ (.cons _ (.cons_cons _ (.cons_cons _ (.cons_cons _ (.cons_cons _ (List.nil_sublist _)))))))) ?_
        (try simp only [Act.put, List.setIfInBounds_toArray, List.set_cons_zero, List.set_cons_succ])
        refine h_take (i := 22) (d := 140) (v := .pointer (some ⟨q, 0, none⟩)) rfl rfl (by kernel_rfl) (by kernel_rfl) (by kernel_rfl) (fun _ _ _ h => h) (y_pure rfl (fun w => by go_simp)) ((HM3.out.forget).sub (.cons_cons _ (.cons _ (.cons_cons _ (.cons_cons _ (.cons_cons _ (.cons_cons _ (List.nil_sublist _)))))))) ?_
        (try simp only [Act.put, List.setIfInBounds_toArray, List.set_cons_zero, List.set_cons_succ])
        refine h_take (i := 23) (d := 141) (v := .pointer (some ⟨q, 0, none⟩)) rfl rfl (by kernel_rfl) (by kernel_rfl) (by kernel_rfl) (fun _ _ _ h => h) (y_pure rfl (fun w => by go_simp)) ((HM3.out.forget).sub (.cons_cons _ (.cons _ (.cons_cons _ (.cons_cons _ (.cons_cons _ (.cons_cons _ (List.nil_sublist _)))))))) ?_
        (try simp only [Act.put, List.setIfInBounds_toArray, List.set_cons_zero, List.set_cons_succ])
        refine h_take (i := 24) (d := 142) (v := .pointer (some ⟨q, 1, none⟩)) rfl rfl (by kernel_rfl) (by kernel_rfl) (by kernel_rfl) (fun _ _ _ h => h) (y_pure rfl (fun w => by go_simp)) ((HM3.out.forget).sub (.cons_cons _ (.cons _ (.cons_cons _ (.cons_cons _ (.cons_cons _ (.cons_cons _ (List.nil_sublist _)))))))) ?_
        (try simp only [Act.put, List.setIfInBounds_toArray, List.set_cons_zero, List.set_cons_succ])
        refine h_take (i := 25) (d := 143) (v := .slice (some ⟨c, 0, none⟩) 32 32) rfl rfl (by kernel_rfl) (by kernel_rfl) (by kernel_rfl) (fun _ _ _ h => h) (y_get (g := q) (off := 1) rfl rfl oneBs (.s .z) Pt.r_cr rfl) ((HM3.out.forget).sub (.cons_cons _ (.cons _ (.cons_cons _ (.cons_cons _ (.cons_cons _ (.cons_cons _ (List.nil_sublist _)))))))) ?_
        (try simp only [Act.put, List.setIfInBounds_toArray, List.set_cons_zero, List.set_cons_succ])
        refine h_take (i := 26) (d := 144) (v := .string TC) rfl rfl (by kernel_rfl) (by kernel_rfl) (by kernel_rfl) (fun _ _ _ h => h) (y_text HTC.out rfl (.s (.s (.s .z))) HLC.out rfl rfl) ((HM3.out.forget).sub (.cons_cons _ (.cons _ (.cons_cons _ (.cons_cons _ (.cons_cons _ (.cons_cons _ (List.nil_sublist _)))))))) ?_
        (try simp only [Act.put, List.setIfInBounds_toArray, List.set_cons_zero, List.set_cons_succ])
        have HN3 := Lib.hid HM3.out.forget
        refine wpAnyH_all (rs := [20]) (by kernel_rfl) (by simp) ?_
        intro i hi
        obtain rfl := List.mem_singleton.1 hi
        refine wpOp_of rfl rfl ?_
        refine w_call (f := 25) (args := #[.pointer (some ⟨p, 0, none⟩)]) (fun w => rfl) (by go_simp) ?_
        refine (cram_at hs HN3).mono ?_
        rintro e w4 ⟨g4, c4, ex4, rfl, HM4⟩
        refine ⟨_, rfl, ((HM4.out.forget).sub (.cons_cons _ (.cons _ (.cons_cons _ (.cons_cons _ (.cons_cons _ (.cons_cons _ (List.nil_sublist _)))))))), ?_⟩
        change wpAnyH _ _ _ _ _ _ _ (Act.put _ (some 138) _) _
        (try simp only [Act.put, List.setIfInBounds_toArray, List.set_cons_zero, List.set_cons_succ])
        refine wpAnyH_all (rs := [21]) (by kernel_rfl) (by simp) ?_
        intro i hi
        obtain rfl := List.mem_singleton.1 hi
        refine wpOp_of rfl rfl ?_
        refine w_text HM4 HTC.out rfl .z HLC.out rfl ?_
        refine ⟨((HM4.out.forget).sub (.cons_cons _ (.cons _ (.cons_cons _ (.cons_cons _ (.cons_cons _ (.cons_cons _ (List.nil_sublist _)))))))), ?_⟩
        change wpAnyH _ _ _ _ _ _ _ (Act.put _ (some 139) _) _
        (try simp only [Act.put, List.setIfInBounds_toArray, List.set_cons_zero, List.set_cons_succ])
        refine h_take (i := 27) (d := 145) (v := .bool true) rfl rfl (by kernel_rfl) (by kernel_rfl) (by kernel_rfl) (fun _ _ _ h => h) (y_pure rfl (fun w => by go_simp)) ((HM4.out.forget).sub (.cons_cons _ (.cons _ (.cons_cons _ (.cons_cons _ (.cons_cons _ (.cons_cons _ (List.nil_sublist _)))))))) ?_
        (try simp only [Act.put, List.setIfInBounds_toArray, List.set_cons_zero, List.set_cons_succ])
        refine h_take (i := 28) (d := 146) (v := .bool true) rfl rfl (by kernel_rfl) (by kernel_rfl) (by kernel_rfl) (fun _ _ _ h => h) (y_pure rfl (fun w => by go_simp)) ((HM4.out.forget).sub (.cons_cons _ (.cons _ (.cons_cons _ (.cons_cons _ (.cons_cons _ (.cons_cons _ (List.nil_sublist _)))))))) ?_
        (try simp only [Act.put, List.setIfInBounds_toArray, List.set_cons_zero, List.set_cons_succ])
        refine h_take (i := 29) (d := 2) (v := .bool true) rfl rfl (by kernel_rfl) (by kernel_rfl) (by kernel_rfl) (fun _ _ _ h => h) (y_pure rfl (fun w => by go_simp)) ((HM4.out.forget).sub (.cons_cons _ (.cons _ (.cons_cons _ (.cons_cons _ (.cons_cons _ (.cons_cons _ (List.nil_sublist _)))))))) ?_
        (try simp only [Act.put, List.setIfInBounds_toArray, List.set_cons_zero, List.set_cons_succ])
        refine wpAnyH_done (by kernel_rfl) ?_ _
        go_wp2_with fail
        go_ret
        exact ⟨rfl, Own.fin HM4⟩
      · refine wpOp_of rfl rfl ?_
        refine w_call (f := 22) (args := #[.pointer (some ⟨q, 0, none⟩)]) (fun w => rfl) (by go_simp) ?_
        refine (rdump_at hs HN1).mono ?_
        rintro e w2 ⟨g2, c2, ex2, rfl, hc2, HM2⟩
        refine ⟨_, rfl, ((HM2.out.perm (List.perm_append_singleton (Po p s) [_, _, _, _, _, _])).sub (.cons_cons _ (.cons _ (.cons_cons _ (.cons_cons _ (.cons_cons _ (.cons_cons _ (List.nil_sublist _)))))))), ?_⟩
        change wpAnyH _ _ _ _ _ _ _ (Act.put _ (some 122) _) _
        (try simp only [Act.put, List.setIfInBounds_toArray, List.set_cons_zero, List.set_cons_succ])
        refine wpAnyH_all (rs := [2, 5]) (by kernel_rfl) (by simp) ?_
        intro i hi
        simp only [List.mem_cons, List.not_mem_nil, or_false] at hi
        rcases hi with rfl | rfl
        · refine wpOp_of rfl rfl ?_
          refine w_text HM2 HTD.out rfl (.s (.s (.s (.s (.s .z))))) HLD.out rfl ?_
          refine ⟨((HM2.out.perm (List.perm_append_singleton (Po p s) [_, _, _, _, _, _])).sub (.cons_cons _ (.cons _ (.cons_cons _ (.cons_cons _ (.cons_cons _ (.cons_cons _ (List.nil_sublist _)))))))), ?_⟩
          change wpAnyH _ _ _ _ _ _ _ (Act.put _ (some 120) _) _
          (try simp only [Act.put, List.setIfInBounds_toArray, List.set_cons_zero, List.set_cons_succ])
          refine wpAnyH_all (rs := [5]) (by kernel_rfl) (by simp) ?_
          intro i hi
          obtain rfl := List.mem_singleton.1 hi
          refine wpOp_of rfl rfl ?_
          refine w_text HM2 HTD.out rfl .z HLD.out rfl ?_
          refine ⟨((HM2.out.perm (List.perm_append_singleton (Po p s) [_, _, _, _, _, _])).sub (.cons_cons _ (.cons _ (.cons_cons _ (.cons_cons _ (.cons_cons _ (.cons_cons _ (List.nil_sublist _)))))))), ?_⟩
          change wpAnyH _ _ _ _ _ _ _ (Act.put _ (some 123) _) _
          (try simp only [Act.put, List.setIfInBounds_toArray, List.set_cons_zero, List.set_cons_succ])
          refine h_take (i := 6) (d := 124) (v := .bool true) rfl rfl (by kernel_rfl) (by kernel_rfl) (by kernel_rfl) (fun _ _ _ h => h) (y_pure rfl (fun w => by go_simp)) ((HM2.out.perm (List.perm_append_singleton (Po p s) [_, _, _, _, _, _])).sub (.cons_cons _ (.cons _ (.cons_cons _ (.cons_cons _ (.cons_cons _ (.cons_cons _ (List.nil_sublist _)))))))) ?_
          (try simp only [Act.put, List.setIfInBounds_toArray, List.set_cons_zero, List.set_cons_succ])
          refine h_take (i := 7) (d := 125) (v := .bool true) rfl rfl (by kernel_rfl) (by kernel_rfl) (by kernel_rfl) (fun _ _ _ h => h) (y_pure rfl (fun w => by go_simp)) ((HM2.out.perm (List.perm_append_singleton (Po p s) [_, _, _, _, _, _])).sub (.cons_cons _ (.cons _ (.cons_cons _ (.cons_cons _ (.cons_cons _ (.cons_cons _ (List.nil_sublist _)))))))) ?_
          (try simp only [Act.put, List.setIfInBounds_toArray, List.set_cons_zero, List.set_cons_succ])
          refine h_take (i := 8) (d := 126) (v := .pointer (some ⟨p, 0, none⟩)) rfl rfl (by kernel_rfl) (by kernel_rfl) (by kernel_rfl) (fun _ _ _ h => h) (y_pure rfl (fun w => by go_simp)) ((HM2.out.perm (List.perm_append_singleton (Po p s) [_, _, _, _, _, _])).sub (.cons_cons _ (.cons _ (.cons_cons _ (.cons_cons _ (.cons_cons _ (.cons_cons _ (List.nil_sublist _)))))))) ?_
          (try simp only [Act.put, List.setIfInBounds_toArray, List.set_cons_zero, List.set_cons_succ])
          refine h_take (i := 11) (d := 129) (v := .pointer (some ⟨q, 0, none⟩)) rfl rfl (by kernel_rfl) (by kernel_rfl) (by kernel_rfl) (fun _ _ _ h => h) (y_pure rfl (fun w => by go_simp)) ((HM2.out.perm (List.perm_append_singleton (Po p s) [_, _, _, _, _, _])).sub (.cons_cons _ (.cons _ (.cons_cons _ (.cons_cons _ (.cons_cons _ (.cons_cons _ (List.nil_sublist _)))))))) ?_
          (try simp only [Act.put, List.setIfInBounds_toArray, List.set_cons_zero, List.set_cons_succ])
          refine h_take (i := 12) (d := 130) (v := .pointer (some ⟨q, 0, none⟩)) rfl rfl (by kernel_rfl) (by kernel_rfl) (by kernel_rfl) (fun _ _ _ h => h) (y_pure rfl (fun w => by go_simp)) ((HM2.out.perm (List.perm_append_singleton (Po p s) [_, _, _, _, _, _])).sub (.cons_cons _ (.cons _ (.cons_cons _ (.cons_cons _ (.cons_cons _ (.cons_cons _ (List.nil_sublist _)))))))) ?_
          (try simp only [Act.put, List.setIfInBounds_toArray, List.set_cons_zero, List.set_cons_succ])
          refine h_take (i := 13) (d := 131) (v := .pointer (some ⟨q, 0, none⟩)) rfl rfl (by kernel_rfl) (by kernel_rfl) (by kernel_rfl) (fun _ _ _ h => h) (y_pure rfl (fun w => by go_simp)) ((HM2.out.perm (List.perm_append_singleton (Po p s) [_, _, _, _, _, _])).sub (.cons_cons _ (.cons _ (.cons_cons _ (.cons_cons _ (.cons_cons _ (.cons_cons _ (List.nil_sublist _)))))))) ?_
          (try simp only [Act.put, List.setIfInBounds_toArray, List.set_cons_zero, List.set_cons_succ])
          refine h_take (i := 14) (d := 132) (v := .slice (some ⟨d, 0, none⟩) 16384 16384) rfl rfl (by kernel_rfl) (by kernel_rfl) (by kernel_rfl) (fun _ _ _ h => h) (y_get (g := q) (off := 0) rfl rfl oneBs (.s .z) Pt.r_vr rfl) ((HM2.out.perm (List.perm_append_singleton (Po p s) [_, _, _, _, _, _])).sub (.cons_cons _ (.cons _ (.cons_cons _ (.cons_cons _ (.cons_cons _ (.cons_cons _ (List.nil_sublist _)))))))) ?_
          (try simp only [Act.put, List.setIfInBounds_toArray, List.set_cons_zero, List.set_cons_succ])
          refine h_take (i := 15) (d := 133) (v := .string TV) rfl rfl (by kernel_rfl) (by kernel_rfl) (by kernel_rfl) (fun _ _ _ h => h) (y_text HTV.out rfl (.s (.s .z)) HLV.out rfl rfl) ((HM2.out.perm (List.perm_append_singleton (Po p s) [_, _, _, _, _, _])).sub (.cons_cons _ (.cons _ (.cons_cons _ (.cons_cons _ (.cons_cons _ (.cons_cons _ (List.nil_sublist _)))))))) ?_
          (try simp only [Act.put, List.setIfInBounds_toArray, List.set_cons_zero, List.set_cons_succ])
          have HN2 : Hid (Own w w2 (Po p s :: [(g2, 5, n8 s.dump ++ ex2), (q, 42, s.rcells d c g), (d, 5, n8 s.vr), (c, 5, n8 s.cr), (g, 5, n8 s.rg), (g1, 5, n8 s.dump ++ ex1)])) := HM2.out.perm (List.perm_append_singleton (Po p s) [_, _, _, _, _, _])
          refine wpAnyH_all (rs := [9]) (by kernel_rfl) (by simp) ?_
          intro i hi
          obtain rfl := List.mem_singleton.1 hi
          refine wpOp_of rfl rfl ?_
          refine w_call (f := 24) (args := #[.pointer (some ⟨p, 0, none⟩)]) (fun w => rfl) (by go_simp) ?_
          refine (vram_at hs HN2).mono ?_
          rintro e w3 ⟨g3, c3, ex3, rfl, HM3⟩
          refine ⟨_, rfl, ((HM3.out.forget).sub (.cons_cons _ (.cons _ (.cons_cons _ (.cons_cons _ (.cons_cons _ (.cons_cons _ (List.nil_sublist _)))))))), ?_⟩
          change wpAnyH _ _ _ _ _ _ _ (Act.put _ (some 127) _) _
          (try simp only [Act.put, List.setIfInBounds_toArray, List.set_cons_zero, List.set_cons_succ])
          refine wpAnyH_all (rs := [10]) (by kernel_rfl) (by simp) ?_
          intro i hi
          obtain rfl := List.mem_singleton.1 hi
          refine wpOp_of rfl rfl ?_
          refine w_text HM3 HTV.out rfl .z HLV.out rfl ?_
          refine ⟨((HM3.out.forget).sub (.cons_cons _ (.cons _ (.cons_cons _ (.cons_cons _ (.cons_cons _ (.cons_cons _ (List.nil_sublist _)))))))), ?_⟩
          change wpAnyH _ _ _ _ _ _ _ (Act.put _ (some 128) _) _
          (try simp only [Act.put, List.setIfInBounds_toArray, List.set_cons_zero, List.set_cons_succ])
          refine h_take (i := 16) (d := 134) (v := .bool true) rfl rfl (by kernel_rfl) (by kernel_rfl) (by kernel_rfl) (fun _ _ _ h => h) (y_pure rfl (fun w => by go_simp)) ((HM3.out.forget).sub (.cons_cons _ (.cons _ (.cons_cons _ (.cons_cons _ (.cons_cons _ (.cons_cons _ (List.nil_sublist _)))))))) ?_
          (try simp only [Act.put, List.setIfInBounds_toArray, List.set_cons_zero, List.set_cons_succ])
          refine h_take (i := 17) (d := 135) (v := .bool true) rfl rfl (by kernel_rfl) (by kernel_rfl) (by kernel_rfl) (fun _ _ _ h => h) (y_pure rfl (fun w => by go_simp)) ((HM3.out.forget).sub (.cons_cons _ (.cons _ (.cons_cons _ (.cons_cons _ (.cons_cons _ (.cons_cons _ (List.nil_sublist _)))))))) ?_
          (try simp only [Act.put, List.setIfInBounds_toArray, List.set_cons_zero, List.set_cons_succ])
          refine h_take (i := 18) (d := 136) (v := .bool true) rfl rfl (by kernel_rfl) (by kernel_rfl) (by kernel_rfl) (fun _ _ _ h => h) (y_pure rfl (fun w => by go_simp)) ((HM3.out.forget).sub (.cons_cons _ (.cons _ (.cons_cons _ (.cons_cons _ (.cons_cons _ (.cons_cons _ (List.nil_sublist _)))))))) ?_
          (try simp only [Act.put, List.setIfInBounds_toArray, List.set_cons_zero, List.set_cons_succ])
          refine h_take (i := 19) (d := 137) (v := .pointer (some ⟨p, 0, none⟩)) rfl rfl (by kernel_rfl) (by kernel_rfl) (by kernel_rfl) (fun _ _ _ h => h) (y_pure rfl (fun w => by go_simp)) ((HM3.out.forget).sub (.cons_cons _ (.cons _ (.cons_cons _ (.cons_cons _ (.cons_cons _ (.cons_cons _ (List.nil_sublist _)))))))) ?_
          (try simp only [Act.put, List.setIfInBounds_toArray, List.set_cons_zero, List.set_cons_succ])
          refine h_take (i := 22) (d := 140) (v := .pointer (some ⟨q, 0, none⟩)) rfl rfl (by kernel_rfl) (by kernel_rfl) (by kernel_rfl) (fun _ _ _ h => h) (y_pure rfl (fun w => by go_simp)) ((HM3.out.forget).sub (.cons_cons _ (.cons _ (.cons_cons _ (.cons_cons _ (.cons_cons _ (.cons_cons _ (List.nil_sublist _)))))))) ?_
          (try simp only [Act.put, List.setIfInBounds_toArray, List.set_cons_zero, List.set_cons_succ])
          refine h_take (i := 23) (d := 141) (v := .pointer (some ⟨q, 0, none⟩)) rfl rfl (by kernel_rfl) (by kernel_rfl) (by kernel_rfl) (fun _ _ _ h => h) (y_pure rfl (fun w => by go_simp)) ((HM3.out.forget).sub (.cons_cons _ (.cons _ (.cons_cons _ (.cons_cons _ (.cons_cons _ (.cons_cons _ (List.nil_sublist _)))))))) ?_
          (try simp only [Act.put, List.setIfInBounds_toArray, List.set_cons_zero, List.set_cons_succ])
          refine h_take (i := 24) (d := 142) (v := .pointer (some ⟨q, 1, none⟩)) rfl rfl (by kernel_rfl) (by kernel_rfl) (by kernel_rfl) (fun _ _ _ h => h) (y_pure rfl (fun w => by go_simp)) ((HM3.out.forget).sub (.cons_cons _ (.cons _ (.cons_cons _ (.cons_cons _ (.cons_cons _ (.cons_cons _ (List.nil_sublist _)))))))) ?_
          (try simp only [Act.put, List.setIfInBounds_toArray, List.set_cons_zero, List.set_cons_succ])
          refine h_take (i := 25) (d := 143) (v := .slice (some ⟨c, 0, none⟩) 32 32) rfl rfl (by kernel_rfl) (by kernel_rfl) (by kernel_rfl) (fun _ _ _ h => h) (y_get (g := q) (off := 1) rfl rfl oneBs (.s .z) Pt.r_cr rfl) ((HM3.out.forget).sub (.cons_cons _ (.cons _ (.cons_cons _ (.cons_cons _ (.cons_cons _ (.cons_cons _ (List.nil_sublist _)))))))) ?_
          (try simp only [Act.put, List.setIfInBounds_toArray, List.set_cons_zero, List.set_cons_succ])
          refine h_take (i := 26) (d := 144) (v := .string TC) rfl rfl (by kernel_rfl) (by kernel_rfl) (by kernel_rfl) (fun _ _ _ h => h) (y_text HTC.out rfl (.s (.s (.s .z))) HLC.out rfl rfl) ((HM3.out.forget).sub (.cons_cons _ (.cons _ (.cons_cons _ (.cons_cons _ (.cons_cons _ (.cons_cons _ (List.nil_sublist _)))))))) ?_
          (try simp only [Act.put, List.setIfInBounds_toArray, List.set_cons_zero, List.set_cons_succ])
          have HN3 := Lib.hid HM3.out.forget
          refine wpAnyH_all (rs := [20]) (by kernel_rfl) (by simp) ?_
          intro i hi
          obtain rfl := List.mem_singleton.1 hi
          refine wpOp_of rfl rfl ?_
          refine w_call (f := 25) (args := #[.pointer (some ⟨p, 0, none⟩)]) (fun w => rfl) (by go_simp) ?_
          refine (cram_at hs HN3).mono ?_
          rintro e w4 ⟨g4, c4, ex4, rfl, HM4⟩
          refine ⟨_, rfl, ((HM4.out.forget).sub (.cons_cons _ (.cons _ (.cons_cons _ (.cons_cons _ (.cons_cons _ (.cons_cons _ (List.nil_sublist _)))))))), ?_⟩
          change wpAnyH _ _ _ _ _ _ _ (Act.put _ (some 138) _) _
          (try simp only [Act.put, List.setIfInBounds_toArray, List.set_cons_zero, List.set_cons_succ])
          refine wpAnyH_all (rs := [21]) (by kernel_rfl) (by simp) ?_
          intro i hi
          obtain rfl := List.mem_singleton.1 hi
          refine wpOp_of rfl rfl ?_
          refine w_text HM4 HTC.out rfl .z HLC.out rfl ?_
          refine ⟨((HM4.out.forget).sub (.cons_cons _ (.cons _ (.cons_cons _ (.cons_cons _ (.cons_cons _ (.cons_cons _ (List.nil_sublist _)))))))), ?_⟩
          change wpAnyH _ _ _ _ _ _ _ (Act.put _ (some 139) _) _
          (try simp only [Act.put, List.setIfInBounds_toArray, List.set_cons_zero, List.set_cons_succ])
          refine h_take (i := 27) (d := 145) (v := .bool true) rfl rfl (by kernel_rfl) (by kernel_rfl) (by kernel_rfl) (fun _ _ _ h => h) (y_pure rfl (fun w => by go_simp)) ((HM4.out.forget).sub (.cons_cons _ (.cons _ (.cons_cons _ (.cons_cons _ (.cons_cons _ (.cons_cons _ (List.nil_sublist _)))))))) ?_
          (try simp only [Act.put, List.setIfInBounds_toArray, List.set_cons_zero, List.set_cons_succ])
          refine h_take (i := 28) (d := 146) (v := .bool true) rfl rfl (by kernel_rfl) (by kernel_rfl) (by kernel_rfl) (fun _ _ _ h => h) (y_pure rfl (fun w => by go_simp)) ((HM4.out.forget).sub (.cons_cons _ (.cons _ (.cons_cons _ (.cons_cons _ (.cons_cons _ (.cons_cons _ (List.nil_sublist _)))))))) ?_
          (try simp only [Act.put, List.setIfInBounds_toArray, List.set_cons_zero, List.set_cons_succ])
          refine h_take (i := 29) (d := 2) (v := .bool true) rfl rfl (by kernel_rfl) (by kernel_rfl) (by kernel_rfl) (fun _ _ _ h => h) (y_pure rfl (fun w => by go_simp)) ((HM4.out.forget).sub (.cons_cons _ (.cons _ (.cons_cons _ (.cons_cons _ (.cons_cons _ (.cons_cons _ (List.nil_sublist _)))))))) ?_
          (try simp only [Act.put, List.setIfInBounds_toArray, List.set_cons_zero, List.set_cons_succ])
          refine wpAnyH_done (by kernel_rfl) ?_ _
          go_wp2_with fail
          go_ret
          exact ⟨rfl, Own.fin HM4⟩
        · refine wpOp_of rfl rfl ?_
          refine w_text HM2 HTD.out rfl .z HLD.out rfl ?_
          refine ⟨((HM2.out.perm (List.perm_append_singleton (Po p s) [_, _, _, _, _, _])).sub (.cons_cons _ (.cons _ (.cons_cons _ (.cons_cons _ (.cons_cons _ (.cons_cons _ (List.nil_sublist _)))))))), ?_⟩
          change wpAnyH _ _ _ _ _ _ _ (Act.put _ (some 123) _) _
          (try simp only [Act.put, List.setIfInBounds_toArray, List.set_cons_zero, List.set_cons_succ])
          refine wpAnyH_all (rs := [2]) (by kernel_rfl) (by simp) ?_
          intro i hi
          obtain rfl := List.mem_singleton.1 hi
          refine wpOp_of rfl rfl ?_
          refine w_text HM2 HTD.out rfl (.s (.s (.s (.s (.s .z))))) HLD.out rfl ?_
          refine ⟨((HM2.out.perm (List.perm_append_singleton (Po p s) [_, _, _, _, _, _])).sub (.cons_cons _ (.cons _ (.cons_cons _ (.cons_cons _ (.cons_cons _ (.cons_cons _ (List.nil_sublist _)))))))), ?_⟩
          change wpAnyH _ _ _ _ _ _ _ (Act.put _ (some 120) _) _
          (try simp only [Act.put, List.setIfInBounds_toArray, List.set_cons_zero, List.set_cons_succ])
          refine h_take (i := 6) (d := 124) (v := .bool true) rfl rfl (by kernel_rfl) (by kernel_rfl) (by kernel_rfl) (fun _ _ _ h => h) (y_pure rfl (fun w => by go_simp)) ((HM2.out.perm (List.perm_append_singleton (Po p s) [_, _, _, _, _, _])).sub (.cons_cons _ (.cons _ (.cons_cons _ (.cons_cons _ (.cons_cons _ (.cons_cons _ (List.nil_sublist _)))))))) ?_
          (try simp only [Act.put, List.setIfInBounds_toArray, List.set_cons_zero, List.set_cons_succ])
          refine h_take (i := 7) (d := 125) (v := .bool true) rfl rfl (by kernel_rfl) (by kernel_rfl) (by kernel_rfl) (fun _ _ _ h => h) (y_pure rfl (fun w => by go_simp)) ((HM2.out.perm (List.perm_append_singleton (Po p s) [_, _, _, _, _, _])).sub (.cons_cons _ (.cons _ (.cons_cons _ (.cons_cons _ (.cons_cons _ (.cons_cons _ (List.nil_sublist _)))))))) ?_
          (try simp only [Act.put, List.setIfInBounds_toArray, List.set_cons_zero, List.set_cons_succ])
          refine h_take (i := 8) (d := 126) (v := .pointer (some ⟨p, 0, none⟩)) rfl rfl (by kernel_rfl) (by kernel_rfl) (by kernel_rfl) (fun _ _ _ h => h) (y_pure rfl (fun w => by go_simp)) ((HM2.out.perm (List.perm_append_singleton (Po p s) [_, _, _, _, _, _])).sub (.cons_cons _ (.cons _ (.cons_cons _ (.cons_cons _ (.cons_cons _ (.cons_cons _ (List.nil_sublist _)))))))) ?_
          (try simp only [Act.put, List.setIfInBounds_toArray, List.set_cons_zero, List.set_cons_succ])
          refine h_take (i := 11) (d := 129) (v := .pointer (some ⟨q, 0, none⟩)) rfl rfl (by kernel_rfl) (by kernel_rfl) (by kernel_rfl) (fun _ _ _ h => h) (y_pure rfl (fun w => by go_simp)) ((HM2.out.perm (List.perm_append_singleton (Po p s) [_, _, _, _, _, _])).sub (.cons_cons _ (.cons _ (.cons_cons _ (.cons_cons _ (.cons_cons _ (.cons_cons _ (List.nil_sublist _)))))))) ?_
          (try simp only [Act.put, List.setIfInBounds_toArray, List.set_cons_zero, List.set_cons_succ])
          refine h_take (i := 12) (d := 130) (v := .pointer (some ⟨q, 0, none⟩)) rfl rfl (by kernel_rfl) (by kernel_rfl) (by kernel_rfl) (fun _ _ _ h => h) (y_pure rfl (fun w => by go_simp)) ((HM2.out.perm (List.perm_append_singleton (Po p s) [_, _, _, _, _, _])).sub (.cons_cons _ (.cons _ (.cons_cons _ (.cons_cons _ (.cons_cons _ (.cons_cons _ (List.nil_sublist _)))))))) ?_
          (try simp only [Act.put, List.setIfInBounds_toArray, List.set_cons_zero, List.set_cons_succ])
          refine h_take (i := 13) (d := 131) (v := .pointer (some ⟨q, 0, none⟩)) rfl rfl (by kernel_rfl) (by kernel_rfl) (by kernel_rfl) (fun _ _ _ h => h) (y_pure rfl (fun w => by go_simp)) ((HM2.out.perm (List.perm_append_singleton (Po p s) [_, _, _, _, _, _])).sub (.cons_cons _ (.cons _ (.cons_cons _ (.cons_cons _ (.cons_cons _ (.cons_cons _ (List.nil_sublist _)))))))) ?_
          (try simp only [Act.put, List.setIfInBounds_toArray, List.set_cons_zero, List.set_cons_succ])
          refine h_take (i := 14) (d := 132) (v := .slice (some ⟨d, 0, none⟩) 16384 16384) rfl rfl (by kernel_rfl) (by kernel_rfl) (by kernel_rfl) (fun _ _ _ h => h) (y_get (g := q) (off := 0) rfl rfl oneBs (.s .z) Pt.r_vr rfl) ((HM2.out.perm (List.perm_append_singleton (Po p s) [_, _, _, _, _, _])).sub (.cons_cons _ (.cons _ (.cons_cons _ (.cons_cons _ (.cons_cons _ (.cons_cons _ (List.nil_sublist _)))))))) ?_
          (try simp only [Act.put, List.setIfInBounds_toArray, List.set_cons_zero, List.set_cons_succ])
          refine h_take (i := 15) (d := 133) (v := .string TV) rfl rfl (by kernel_rfl) (by kernel_rfl) (by kernel_rfl) (fun _ _ _ h => h) (y_text HTV.out rfl (.s (.s .z)) HLV.out rfl rfl) ((HM2.out.perm (List.perm_append_singleton (Po p s) [_, _, _, _, _, _])).sub (.cons_cons _ (.cons _ (.cons_cons _ (.cons_cons _ (.cons_cons _ (.cons_cons _ (List.nil_sublist _)))))))) ?_
          (try simp only [Act.put, List.setIfInBounds_toArray, List.set_cons_zero, List.set_cons_succ])
          have HN2 : Hid (Own w w2 (Po p s :: [(g2, 5, n8 s.dump ++ ex2), (q, 42, s.rcells d c g), (d, 5, n8 s.vr), (c, 5, n8 s.cr), (g, 5, n8 s.rg), (g1, 5, n8 s.dump ++ ex1)])) := HM2.out.perm (List.perm_append_singleton (Po p s) [_, _, _, _, _, _])
          refine wpAnyH_all (rs := [9]) (by kernel_rfl) (by simp) ?_
          intro i hi
          obtain rfl := List.mem_singleton.1 hi
          refine wpOp_of rfl rfl ?_
          refine w_call (f := 24) (args := #[.pointer (some ⟨p, 0, none⟩)]) (fun w => rfl) (by go_simp) ?_
          refine (vram_at hs HN2).mono ?_
          rintro e w3 ⟨g3, c3, ex3, rfl, HM3⟩
          refine ⟨_, rfl, ((HM3.out.forget).sub (.cons_cons _ (.cons _ (.cons_cons _ (.cons_cons _ (.cons_cons _ (.cons_cons _ (List.nil_sublist _)))))))), ?_⟩
          change wpAnyH _ _ _ _ _ _ _ (Act.put _ (some 127) _) _
          (try simp only [Act.put, List.setIfInBounds_toArray, List.set_cons_zero, List.set_cons_succ])
          refine wpAnyH_all (rs := [10]) (by kernel_rfl) (by simp) ?_
          intro i hi
          obtain rfl := List.mem_singleton.1 hi
          refine wpOp_of rfl rfl ?_
          refine w_text HM3 HTV.out rfl .z HLV.out rfl ?_
          refine ⟨((HM3.out.forget).sub (.cons_cons _ (.cons _ (.cons_cons _ (.cons_cons _ (.cons_cons _ (.cons_cons _ (List.nil_sublist _)))))))), ?_⟩
          change wpAnyH _ _ _ _ _ _ _ (Act.put _ (some 128) _) _
          (try simp only [Act.put, List.setIfInBounds_toArray, List.set_cons_zero, List.set_cons_succ])
          refine h_take (i := 16) (d := 134) (v := .bool true) rfl rfl (by kernel_rfl) (by kernel_rfl) (by kernel_rfl) (fun _ _ _ h => h) (y_pure rfl (fun w => by go_simp)) ((HM3.out.forget).sub (.cons_cons _ (.cons _ (.cons_cons _ (.cons_cons _ (.cons_cons _ (.cons_cons _ (List.nil_sublist _)))))))) ?_
          (try simp only [Act.put, List.setIfInBounds_toArray, List.set_cons_zero, List.set_cons_succ])
          refine h_take (i := 17) (d := 135) (v := .bool true) rfl rfl (by kernel_rfl) (by kernel_rfl) (by kernel_rfl) (fun _ _ _ h => h) (y_pure rfl (fun w => by go_simp)) ((HM3.out.forget).sub (.cons_cons _ (.cons _ (.cons_cons _ (.cons_cons _ (.cons_cons _ (.cons_cons _ (List.nil_sublist _)))))))) ?_
          (try simp only [Act.put, List.setIfInBounds_toArray, List.set_cons_zero, List.set_cons_succ])
          refine h_take (i := 18) (d := 136) (v := .bool true) rfl rfl (by kernel_rfl) (by kernel_rfl) (by kernel_rfl) (fun _ _ _ h => h) (y_pure rfl (fun w => by go_simp)) ((HM3.out.forget).sub (.cons_cons _ (.cons _ (.cons_cons _ (.cons_cons _ (.cons_cons _ (.cons_cons _ (List.nil_sublist _)))))))) ?_
          (try simp only [Act.put, List.setIfInBounds_toArray, List.set_cons_zero, List.set_cons_succ])
          refine h_take (i := 19) (d := 137) (v := .pointer (some ⟨p, 0, none⟩)) rfl rfl (by kernel_rfl) (by kernel_rfl) (by kernel_rfl) (fun _ _ _ h => h) (y_pure rfl (fun w => by go_simp)) ((HM3.out.forget).sub (.cons_cons _ (.cons _ (.cons_cons _ (.cons_cons _ (.cons_cons _ (.cons_cons _ (List.nil_sublist _)))))))) ?_
          (try simp only [Act.put, List.setIfInBounds_toArray, List.set_cons_zero, List.set_cons_succ])
          refine h_take (i := 22) (d := 140) (v := .pointer (some ⟨q, 0, none⟩)) rfl rfl (by kernel_rfl) (by kernel_rfl) (by kernel_rfl) (fun _ _ _ h => h) (y_pure rfl (fun w => by go_simp)) ((HM3.out.forget).sub (.cons_cons _ (.cons _ (.cons_cons _ (.cons_cons _ (.cons_cons _ (.cons_cons _ (List.nil_sublist _)))))))) ?_
          (try simp only [Act.put, List.setIfInBounds_toArray, List.set_cons_zero, List.set_cons_succ])
          refine h_take (i := 23) (d := 141) (v := .pointer (some ⟨q, 0, none⟩)) rfl rfl (by kernel_rfl) (by kernel_rfl) (by kernel_rfl) (fun _ _ _ h => h) (y_pure rfl (fun w => by go_simp)) ((HM3.out.forget).sub (.cons_cons _ (.cons _ (.cons_cons _ (.cons_cons _ (.cons_cons _ (.cons_cons _ (List.nil_sublist _)))))))) ?_
          (try simp only [Act.put, List.setIfInBounds_toArray, List.set_cons_zero, List.set_cons_succ])
          refine h_take (i := 24) (d := 142) (v := .pointer (some ⟨q, 1, none⟩)) rfl rfl (by kernel_rfl) (by kernel_rfl) (by kernel_rfl) (fun _ _ _ h => h) (y_pure rfl (fun w => by go_simp)) ((HM3.out.forget).sub (.cons_cons _ (.cons _ (.cons_cons _ (.cons_cons _ (.cons_cons _ (.cons_cons _ (List.nil_sublist _)))))))) ?_
          (try simp only [Act.put, List.setIfInBounds_toArray, List.set_cons_zero, List.set_cons_succ])
          refine h_take (i := 25) (d := 143) (v := .slice (some ⟨c, 0, none⟩) 32 32) rfl rfl (by kernel_rfl) (by kernel_rfl) (by kernel_rfl) (fun _ _ _ h => h) (y_get (g := q) (off := 1) rfl rfl oneBs (.s .z) Pt.r_cr rfl) ((HM3.out.forget).sub (.cons_cons _ (.cons _ (.cons_cons _ (.cons_cons _ (.cons_cons _ (.cons_cons _ (List.nil_sublist _)))))))) ?_
          (try simp only [Act.put, List.setIfInBounds_toArray, List.set_cons_zero, List.set_cons_succ])
          refine h_take (i := 26) (d := 144) (v := .string TC) rfl rfl (by kernel_rfl) (by kernel_rfl) (by kernel_rfl) (fun _ _ _ h => h) (y_text HTC.out rfl (.s (.s (.s .z))) HLC.out rfl rfl) ((HM3.out.forget).sub (.cons_cons _ (.cons _ (.cons_cons _ (.cons_cons _ (.cons_cons _ (.cons_cons _ (List.nil_sublist _)))))))) ?_
          (try simp only [Act.put, List.setIfInBounds_toArray, List.set_cons_zero, List.set_cons_succ])
          have HN3 := Lib.hid HM3.out.forget
          refine wpAnyH_all (rs := [20]) (by kernel_rfl) (by simp) ?_
          intro i hi
          obtain rfl := List.mem_singleton.1 hi
          refine wpOp_of rfl rfl ?_
          refine w_call (f := 25) (args := #[.pointer (some ⟨p, 0, none⟩)]) (fun w => rfl) (by go_simp) ?_
          refine (cram_at hs HN3).mono ?_
          rintro e w4 ⟨g4, c4, ex4, rfl, HM4⟩
          refine ⟨_, rfl, ((HM4.out.forget).sub (.cons_cons _ (.cons _ (.cons_cons _ (.cons_cons _ (.cons_cons _ (.cons_cons _ (List.nil_sublist _)))))))), ?_⟩
          change wpAnyH _ _ _ _ _ _ _ (Act.put _ (some 138) _) _
          (try simp only [Act.put, List.setIfInBounds_toArray, List.set_cons_zero, List.set_cons_succ])
          refine wpAnyH_all (rs := [21]) (by kernel_rfl) (by simp) ?_
          intro i hi
          obtain rfl := List.mem_singleton.1 hi
          refine wpOp_of rfl rfl ?_
          refine w_text HM4 HTC.out rfl .z HLC.out rfl ?_
          refine ⟨((HM4.out.forget).sub (.cons_cons _ (.cons _ (.cons_cons _ (.cons_cons _ (.cons_cons _ (.cons_cons _ (List.nil_sublist _)))))))), ?_⟩
          change wpAnyH _ _ _ _ _ _ _ (Act.put _ (some 139) _) _
          (try simp only [Act.put, List.setIfInBounds_toArray, List.set_cons_zero, List.set_cons_succ])
          refine h_take (i := 27) (d := 145) (v := .bool true) rfl rfl (by kernel_rfl) (by kernel_rfl) (by kernel_rfl) (fun _ _ _ h => h) (y_pure rfl (fun w => by go_simp)) ((HM4.out.forget).sub (.cons_cons _ (.cons _ (.cons_cons _ (.cons_cons _ (.cons_cons _ (.cons_cons _ (List.nil_sublist _)))))))) ?_
          (try simp only [Act.put, List.setIfInBounds_toArray, List.set_cons_zero, List.set_cons_succ])
          refine h_take (i := 28) (d := 146) (v := .bool true) rfl rfl (by kernel_rfl) (by kernel_rfl) (by kernel_rfl) (fun _ _ _ h => h) (y_pure rfl (fun w => by go_simp)) ((HM4.out.forget).sub (.cons_cons _ (.cons _ (.cons_cons _ (.cons_cons _ (.cons_cons _ (.cons_cons _ (List.nil_sublist _)))))))) ?_
          (try simp only [Act.put, List.setIfInBounds_toArray, List.set_cons_zero, List.set_cons_succ])
          refine h_take (i := 29) (d := 2) (v := .bool true) rfl rfl (by kernel_rfl) (by kernel_rfl) (by kernel_rfl) (fun _ _ _ h => h) (y_pure rfl (fun w => by go_simp)) ((HM4.out.forget).sub (.cons_cons _ (.cons _ (.cons_cons _ (.cons_cons _ (.cons_cons _ (.cons_cons _ (List.nil_sublist _)))))))) ?_
          (try simp only [Act.put, List.setIfInBounds_toArray, List.set_cons_zero, List.set_cons_succ])
          refine wpAnyH_done (by kernel_rfl) ?_ _
          go_wp2_with fail
          go_ret
          exact ⟨rfl, Own.fin HM4⟩

theorem runs_any (a : Option Addr) (n cap : Nat) (ac : Nat → Int × Int × Nat) (w : World) (ha : ActsIn w w.heap.size a n ac) :
    Calls Try.prog 4 #[.slice a n cap] w fun e w' => e = .returned (.bool true) ∧ Below w.heap.size w w' := by
  by_cases hh : (300 : Int) < (n : Int)
  · exact runs_out a n cap hh w
  · exact runs_in a n cap (by omega) ac w ha

end Go.Proofs.Ytbjghlcdbmooaaa
