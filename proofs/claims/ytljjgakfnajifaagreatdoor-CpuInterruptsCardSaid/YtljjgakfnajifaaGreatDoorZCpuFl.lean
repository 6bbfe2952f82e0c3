import Derived.Test.YtljjgakfnajifaaGreatDoorZCpuRw
import Derived.Test.YtljjgakfnajifaaGreatDoorZCpuAw
import Derived.Deep.Cut
import Derived.Deep.CutRange
namespace Go.Proofs.YtljjgakfnajifaaGreatDoor
open Go.RowKit
theorem build_world (v : Value) (hv : ∃ g N, v = .slice (some ⟨g, 0, none⟩) N N) (w : World) : (Instr.build 44 #[(0, v)]).run Tryz.prog w = .ok (.agg #[v, .pointer none, .slice none 0 0, .bool false, .int .u8 0, .slice none 0 0]) w := by
  obtain ⟨g, N, rfl⟩ := hv
  kernel_rfl
theorem flat_made {W0 w : World} {g b gm N : Nat} {m : Nat → Nat} {l R : Blocks} {lv : Value} (h8 : ∀ i, m i < 256) (hN : N = 65536)
    (h : Own W0 w ((g, 44, [.slice (some ⟨gm, 0, none⟩) N N, .pointer none, .slice none 0 0, .bool false, .int .u8 0, .slice none 0 0]) :: (b, 40, [.slice (some ⟨gm, 0, none⟩) N N, lv]) :: (gm, 5, mcells m) :: (R ++ l))) : Fx W0 w g ⟨m, []⟩ l 1000000 := by
  subst hN
  have hp := h.perm (l' := ((b, 40, [.slice (some ⟨gm, 0, none⟩) 65536 65536, lv]) :: R) ++ ((g, 44, [.slice (some ⟨gm, 0, none⟩) 65536 65536, .pointer none, .slice none 0 0, .bool false, .int .u8 0, .slice none 0 0]) :: (gm, 5, mcells m) :: l)) (by
    refine (List.Perm.swap _ _ _).trans ?_
    refine .cons _ ?_
    exact (List.perm_middle.trans (.cons _ List.perm_middle)).symm)
  exact ⟨⟨h8, by show 0 + 1000000 ≤ 1000000; decide⟩, _, ⟨gm, .slice none 0 0, [], .slice none 0 0, [], 0, [], rfl, RowOf.nil _ _, RowOf.nil _ _⟩, hp.tail.perm (List.perm_append_comm (l₁ := [_, _]))⟩
set_option maxRecDepth 100000 in
set_option maxHeartbeats 400000 in
theorem flat_at {W0 w : World} {l : Blocks} (at_ f cap : Nat) (ys : List Nat) (a : Option Addr) (ha : at_ < 65536) (hl : ys.length ≤ 65536) (hR : Hid (Reads W0 l a ys)) (h : Hid (Own W0 w l)) :
    Calls Tryz.prog 18 #[.int .u16 (at_ : Int), .slice a ys.length cap, .int .u8 (f : Int)] w fun e w' => ∃ b, e = .returned (.pointer (some ⟨b, 0, none⟩)) ∧ Hid (Fx W0 w' b ⟨lay (bas f) at_ ys, []⟩ l 1000000) := by
  obtain ⟨n, hn⟩ : ∃ n, Hid (ys.length = n) := ⟨_, rfl⟩
  have hbox := Lib.hid (box_at at_ f cap ys a ha hl hR h)
  rw [hn.out] at hbox ⊢
  clear h hl ha
  go_enter Tryz.func18, Tryz.ntmps18
  go_wp2_with (first
    | (go_at_call 14; (with_reducible refine hbox.out.mono ?_); clear hbox; rintro e w' ⟨b, rfl, hB⟩; obtain ⟨hg, X, ⟨gm, lv, R, rfl, hRow⟩, hO⟩ := hB.out; have HG := Lib.hid hg; obtain ⟨N, hN⟩ : ∃ N : Nat, Hid (N = 65536) := ⟨_, rfl⟩; rw [← hN.out] at hO; have HM := Lib.hid (hO.perm List.perm_append_comm); simp only [List.cons_append] at HM; have hbw := build_world _ ⟨gm, N, rfl⟩; clear hB hO hg hRow)
    | ((with_reducible apply own_built1 hbw); exact rfl; exact rfl; exact rfl; all_goals skip)
    | ((with_reducible apply own_box HM); exact rfl; (conv => lhs; whnf); exact rfl; exact rfl; (first | (clear tg1 HM; intro w' g1 HM) | (clear tg2 HM; intro w' g2 HM) | (clear tg3 HM; intro w' g3 HM) | (clear tg4 HM; intro w' g4 HM) | (clear HM; intro w' g' HM)); all_goals skip) | ((with_reducible apply own_cell HM); exact rfl; exact rfl; (first | (with_reducible exact oneU8s)); (with_reducible first | exact .z | exact .s .z | exact .s (.s .z) | exact .s (.s (.s .z)) | exact .s (.s (.s (.s .z)))); (focus repeat' (first | with_reducible exact .z | with_reducible apply Drop.s)); exact rfl; all_goals skip) | ((with_reducible apply own_store HM); exact rfl; exact rfl; (conv => lhs; whnf); exact rfl; (with_reducible first | exact .z | exact .s .z | exact .s (.s .z) | exact .s (.s (.s .z)) | exact .s (.s (.s (.s .z)))); (focus repeat' (first | with_reducible exact .z | with_reducible apply Over.p | with_reducible apply Over.s)); (with_reducible first | exact .z | exact .s .z | exact .s (.s .z) | exact .s (.s (.s .z)) | exact .s (.s (.s (.s .z)))); (first | (with_reducible exact (oneU8s).size)); exact rfl; exact rfl; exact rfl; exact rfl; clear HM; intro w' HM; all_goals skip))
  go_ret
  exact ⟨_, rfl, Lib.hid (flat_made HG.out.1 hN.out HM.out)⟩
def LogIn (w : World) (a : Option Addr) (g : List Int) : Prop := 0 < g.length → ∃ b, a = some ⟨b, 0, none⟩ ∧ ∀ (j : Nat) (y : Int), g[j]? = some y → w.cell? ⟨b, j, none⟩ = some (.int .i64 y)
set_option maxRecDepth 100000 in
set_option maxHeartbeats 400000 in
theorem sameLog_at (g : List Int) (hg : g.length ≤ 1000000) (n : Nat) (hn : Hid (g.length = n)) (a1 a2 : Option Addr) (c1 c2 : Nat) (w : World) (h1 : Hid (LogIn w a1 g)) (h2 : Hid (LogIn w a2 g)) :
    Calls Tryz.prog 20 #[.slice a1 n c1, .slice a2 n c2] w fun e w' => e = .returned (.bool true) ∧ Below w.heap.size w w' := by
  have n1 : n ≤ 1000000 := by rw [← hn.out]; exact hg
  have HN := Lib.hid n1
  have HM := Lib.hid (Own.start w)
  clear hg n1
  go_enter Tryz.func20, Tryz.ntmps20
  go_wp2_with fail
  go_loopw [13] (fun i wr => ∃ k : Nat, k ≤ n ∧ i = .int .i64 (k : Int) ∧ Hid (Own w wr [])) (fun i _ => n - (intOf i).toNat)
  case atStart => exact ⟨0, by omega, rfl, HM⟩
  case round =>
    clear HM
    obtain ⟨k, hk, rfl, HM⟩ := hrel
    by_cases hlt : k < n
    · have hn' := hn.out
      have hN' := HN.out
      obtain ⟨y, hy⟩ : ∃ y, g[k]? = some y := ⟨_, List.getElem?_eq_getElem (by omega)⟩
      obtain ⟨b1, rfl, q1⟩ := h1.out (by omega)
      obtain ⟨b2, rfl, q2⟩ := h2.out (by omega)
      have d1 := Lib.hid (q1 k y hy)
      have d2 := Lib.hid (q2 k y hy)
      have hlt2 : (k : Int) < (n : Int) := by omega
      have k1 : (k : Int) < 1000000 := by omega
      clear h1 h2 q1 q2 hn hn' hy hk hN'
      go_wp2_with fail
      (refine own_region HM (by kernel_rfl) (by kernel_rfl) ?_; (try simp only [Act.put, List.setIfInBounds_toArray, List.set_cons_zero, List.set_cons_succ]); repeat ((fail_if_success (with_reducible refine wpQuiet_nil ?_)); first | go_big_quiet_skip | (go_big_quiet_want; first | ((with_reducible apply quiet_cell); exact rfl; (first | (with_reducible exact oneInt)); (with_reducible first | exact .z | exact .s .z | exact .s (.s .z) | exact .s (.s (.s .z)) | exact .s (.s (.s (.s .z)))); (focus repeat' (first | with_reducible exact .z | with_reducible apply Drop.s)); go_big_quiet_op; go_big_quiet_on) | ((with_reducible apply quiet_old); exact rfl; (first | (with_reducible exact oneInt) | (with_reducible exact oneU8) | (with_reducible exact oneBool) | (with_reducible exact oneU16) | (with_reducible exact oneStr)); (first | (with_reducible exact d1.out) | (with_reducible exact d2.out)); exact rfl; go_big_quiet_op; go_big_quiet_on) | (go_big_quiet_op; go_big_quiet_on) | (go_big_quiet_op; refine ⟨_, fun _ _ => rfl, ?_⟩; go_big_quiet_on))))
      refine wpQuiet_nil ?_
      intro w' HM'
      clear HM; have HM := HM'; clear HM'
      go_wp2_with fail
      go_roundw
      case rel => exact ⟨k + 1, by omega, by go_num, HM⟩
      case measure => simp [intOf]; omega
    · obtain rfl : k = n := by omega
      clear hlt hk
      go_wp2_with fail
      go_ret
      exact ⟨rfl, HM.out.below⟩
theorem log_in {R : Blocks} {v : Value} {g : List Int} (h : RowOf 3 1 R v g.length (i64s g)) : ∃ a c, v = .slice a g.length c ∧ ∀ w, (∀ e ∈ R, Whole w e.1 e.2.1 e.2.2) → LogIn w a g := by
  obtain ⟨hl, ⟨-, rfl, h0⟩ | ⟨gb, cap, cur, rfl, rfl, h1, h2, h3, h4⟩⟩ := h
  · exact ⟨none, 0, by rw [h0], fun w _ hp => absurd hp (by omega)⟩
  · refine ⟨_, _, rfl, fun w hw _ => ⟨gb, rfl, fun j y hy => ?_⟩⟩
    have hj : j < g.length := (List.getElem?_eq_some_iff.1 hy).1
    have hW := hw (gb, 3, cur) (by simp)
    rw [hW.at_ j]
    have e : (cur.take (g.length * 1))[j]? = cur[j]? := by rw [List.getElem?_take, if_pos (by omega)]
    rw [← e, h4]
    unfold i64s
    rw [List.getElem?_map, hy]
    rfl
end Go.Proofs.YtljjgakfnajifaaGreatDoor
