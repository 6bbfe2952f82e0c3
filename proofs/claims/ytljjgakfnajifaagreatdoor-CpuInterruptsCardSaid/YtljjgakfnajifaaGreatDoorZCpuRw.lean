import Derived.Test.YtljjgakfnajifaaGreatDoorZCpuAw
import Derived.Deep.Cut
import Derived.Deep.CutRange
namespace Go.Proofs.YtljjgakfnajifaaGreatDoor
open Go.RowKit
def IsFlat (X : Blocks) (b : Nat) (u : U) : Prop :=
  ∃ gm lv R av Ra na xs, X = (b, 44, [.slice (some ⟨gm, 0, none⟩) 65536 65536, .pointer none, lv, .bool false, .int .u8 0, av]) :: (gm, 5, mcells u.m) :: (R ++ Ra) ∧ RowOf 3 1 R lv u.g.length (i64s u.g) ∧ RowOf 168 4 Ra av na xs
structure Fx (W0 w : World) (b : Nat) (u : U) (l : Blocks) (n : Nat) : Prop where
  good : u.Good n
  own : ∃ X, IsFlat X b u ∧ Own W0 w (l ++ X)
section
variable {W0 w w' : World} {b n k : Nat} {u : U} {l l' : Blocks}
theorem Fx.perm (h : Fx W0 w b u l n) (hp : l.Perm l') : Fx W0 w b u l' n := by
  obtain ⟨hg, X, hX, hO⟩ := h
  exact ⟨hg, X, hX, hO.perm (hp.append_right X)⟩
theorem Fx.less (h : Fx W0 w b u l n) (hk : k ≤ n) : Fx W0 w b u l k := ⟨h.good.less hk, h.own⟩
theorem Fx.call (h : Fx W0 w b u l n) (hb : Below w.heap.size w w') : Fx W0 w' b u l n := by
  obtain ⟨hg, X, hX, hO⟩ := h
  exact ⟨hg, X, hX, hO.call hb⟩
theorem Fx.drop {e : Nat × TypeId × List Value} (h : Fx W0 w b u (e :: l) n) : Fx W0 w b u l n := by
  obtain ⟨hg, X, hX, hO⟩ := h
  exact ⟨hg, X, hX, hO.forget⟩
end
theorem Fx.out {W0 w : World} {b n : Nat} {m : Nat → Nat} {g : List Int} {l : Blocks} (h : Fx W0 w b ⟨m, g⟩ l (n + 1)) :
    (∀ i, m i < 256) ∧ g.length + 1 + n ≤ 1000000 ∧ ∃ gm lv R N av Ra na xs, N = 65536 ∧ RowOf 3 1 R lv g.length (i64s g) ∧ RowOf 168 4 Ra av na xs ∧ Own W0 w ((b, 44, [.slice (some ⟨gm, 0, none⟩) N N, .pointer none, lv, .bool false, .int .u8 0, av]) :: (gm, 5, mcells m) :: (R ++ (Ra ++ l))) := by
  obtain ⟨⟨h8, hl⟩, X, ⟨gm, lv, R, av, Ra, na, xs, rfl, hR, hA⟩, hO⟩ := h
  have hl' : g.length + (n + 1) ≤ 1000000 := hl
  refine ⟨h8, by omega, gm, lv, R, 65536, av, Ra, na, xs, rfl, hR, hA, hO.perm ?_⟩
  refine List.perm_append_comm.trans ?_
  simp only [List.cons_append, List.append_assoc]
  exact .refl _
theorem Fx.back {W0 w : World} {b n gm N na : Nat} {m : Nat → Nat} {g : List Int} {l R Ra : Blocks} {lv av : Value} {xs : List Value} (h8 : ∀ i, m i < 256) (hl : g.length + n ≤ 1000000) (hN : N = 65536) (hR : RowOf 3 1 R lv g.length (i64s g)) (hA : RowOf 168 4 Ra av na xs)
    (h : Own W0 w ((b, 44, [.slice (some ⟨gm, 0, none⟩) N N, .pointer none, lv, .bool false, .int .u8 0, av]) :: (gm, 5, mcells m) :: ((Ra ++ l) ++ R))) : Fx W0 w b ⟨m, g⟩ l n := by
  subst hN
  refine ⟨⟨h8, hl⟩, _, ⟨gm, lv, R, av, Ra, na, xs, rfl, hR, hA⟩, h.perm ?_⟩
  refine List.Perm.trans ?_ List.perm_append_comm
  simp only [List.cons_append]
  refine .cons _ (.cons _ ?_)
  exact List.perm_append_comm.trans (by rw [List.append_assoc])
theorem slice_some {g n : Nat} (w : World) : (binOp .neq 30 (.slice (some ⟨g, 0, none⟩) n n) (.slice none 0 0)).run Tryz.prog w = .ok (.bool true) w := by kernel_rfl
set_option maxRecDepth 100000 in
set_option maxHeartbeats 1600000 in
theorem flat_read {W0 w : World} {b n : Nat} {u : U} {l : Blocks} (a : Nat) (ha : a < 65536) (h : Hid (Fx W0 w b u l (n + 1))) :
    Calls Tryz.prog 53 #[.pointer (some ⟨b, 0, none⟩), .int .u16 (a : Int)] w fun e w' => e = .returned (.int .u8 (u.m a : Int)) ∧ Hid (Fx W0 w' b (u.rd a) l n) := by
  obtain ⟨m, g⟩ := u
  obtain ⟨h8, hl, gm, lv, R, N, av, Ra, na, xs, hN, hR, hAs, hO⟩ := h.out.out
  have H8 := Lib.hid h8
  have HR := Lib.hid hR
  have HAS := Lib.hid hAs
  have HM := Lib.hid hO
  have HNN := Lib.hid hN
  have HN : Hid (g.length + 1 ≤ 1000000) := Lib.hid (by omega)
  have HL := Lib.hid hl
  have hsn := @slice_some gm N
  have HA := Lib.hid ha
  have ha2 : (a : Int) < 65536 := by omega
  have ha4 : (a : Int) < (N : Int) := by omega
  clear ha
  clear h h8 hR hO hl hN hAs
  have tg1 : Hid True := trivial
  go_enter Tryz.func53, Tryz.ntmps53
  go_wp2_with (first
    | ((with_reducible apply own_box HM); exact rfl; (conv => lhs; whnf); exact rfl; exact rfl; (first | (clear tg1 HM; intro w' g1 HM) | (clear tg2 HM; intro w' g2 HM) | (clear tg3 HM; intro w' g3 HM) | (clear tg4 HM; intro w' g4 HM) | (clear HM; intro w' g' HM)); all_goals skip) | ((with_reducible apply own_cell HM); exact rfl; exact rfl; (first | (with_reducible exact oneInts) | (with_reducible exact oneU8s) | (with_reducible exact oneBool)); (with_reducible first | exact .z | exact .s .z | exact .s (.s .z) | exact .s (.s (.s .z)) | exact .s (.s (.s (.s .z)))); (focus repeat' (first | with_reducible exact .z | with_reducible apply Drop.s)); exact rfl; all_goals skip) | ((with_reducible apply own_store HM); exact rfl; exact rfl; (conv => lhs; whnf); exact rfl; (with_reducible first | exact .z | exact .s .z | exact .s (.s .z) | exact .s (.s (.s .z)) | exact .s (.s (.s (.s .z)))); (focus repeat' (first | with_reducible exact .z | with_reducible apply Over.p | with_reducible apply Over.s)); (with_reducible first | exact .z | exact .s .z | exact .s (.s .z) | exact .s (.s (.s .z)) | exact .s (.s (.s (.s .z)))); (first | (with_reducible exact (oneInts).size) | (with_reducible exact (oneU8s).size) | (with_reducible exact (oneBool).size)); exact rfl; exact rfl; exact rfl; exact rfl; clear HM; intro w' HM; all_goals skip) | ((with_reducible apply own_made (cs := [.int .i64 (a : Int)]) (e := 3) (n := 1) HM); exact rfl; exact made_int (a : Int); (focus (go_simp; done)); exact rfl; clear tg1; intro w' g1 HM'; clear HM; have HM := HM'; clear HM'; all_goals skip) | (refine own_log (x := (a : Int)) (L := _ :: _ :: (Ra ++ l)) HM (((List.perm_append_comm.cons _).cons _).cons _) HR HN rfl rfl rfl rfl ?_; intro gg cap w1 R1 HR' HM'; clear HM HR; have HM : Hid (Own W0 w1 (_ :: _ :: ((Ra ++ l) ++ R1))) := HM'; have HR := HR'; clear HM' HR') | ((with_reducible apply own_get HM); exact rfl; exact rfl; (with_reducible exact oneU8); exact .s .z; exact mcells_get m a HA.out; exact rfl; all_goals skip))
  go_ret
  exact ⟨rfl, Fx.back H8.out (n := n) (len_app HL.out) HNN.out HR.out HAS.out HM.out⟩
set_option maxRecDepth 100000 in
set_option maxHeartbeats 1600000 in
theorem flat_write {W0 w : World} {b n : Nat} {u : U} {l : Blocks} (a v : Nat) (ha : a < 65536) (hv : v < 256) (h : Hid (Fx W0 w b u l (n + 1))) :
    Calls Tryz.prog 71 #[.pointer (some ⟨b, 0, none⟩), .int .u16 (a : Int), .int .u8 (v : Int)] w fun e w' => e = .returned (.tuple #[]) ∧ Hid (Fx W0 w' b (u.wr a v) l n) := by
  obtain ⟨m, g⟩ := u
  obtain ⟨h8, hl, gm, lv, R, N, av, Ra, na, xs, hN, hR, hAs, hO⟩ := h.out.out
  have H8 := Lib.hid h8
  have HR := Lib.hid hR
  have HAS := Lib.hid hAs
  have HM := Lib.hid hO
  have HNN := Lib.hid hN
  have HN : Hid (g.length + 1 ≤ 1000000) := Lib.hid (by omega)
  have HL := Lib.hid hl
  have hsn := @slice_some gm N
  have HA := Lib.hid ha
  have ha2 : (a : Int) < 65536 := by omega
  have ha4 : (a : Int) < (N : Int) := by omega
  clear ha
  have HV := Lib.hid hv
  have hv2 : (v : Int) < 256 := by omega
  clear hv
  clear h h8 hR hO hl hN hAs
  have tg1 : Hid True := trivial
  go_enter Tryz.func71, Tryz.ntmps71
  go_upto_region 1 with (first
    | ((with_reducible apply own_box HM); exact rfl; (conv => lhs; whnf); exact rfl; exact rfl; (first | (clear tg1 HM; intro w' g1 HM) | (clear tg2 HM; intro w' g2 HM) | (clear tg3 HM; intro w' g3 HM) | (clear tg4 HM; intro w' g4 HM) | (clear HM; intro w' g' HM)); all_goals skip) | ((with_reducible apply own_cell HM); exact rfl; exact rfl; (first | (with_reducible exact oneInts) | (with_reducible exact oneU8s) | (with_reducible exact oneBool)); (with_reducible first | exact .z | exact .s .z | exact .s (.s .z) | exact .s (.s (.s .z)) | exact .s (.s (.s (.s .z)))); (focus repeat' (first | with_reducible exact .z | with_reducible apply Drop.s)); exact rfl; all_goals skip) | ((with_reducible apply own_store HM); exact rfl; exact rfl; (conv => lhs; whnf); exact rfl; (with_reducible first | exact .z | exact .s .z | exact .s (.s .z) | exact .s (.s (.s .z)) | exact .s (.s (.s (.s .z)))); (focus repeat' (first | with_reducible exact .z | with_reducible apply Over.p | with_reducible apply Over.s)); (with_reducible first | exact .z | exact .s .z | exact .s (.s .z) | exact .s (.s (.s .z)) | exact .s (.s (.s (.s .z)))); (first | (with_reducible exact (oneInts).size) | (with_reducible exact (oneU8s).size) | (with_reducible exact (oneBool).size)); exact rfl; exact rfl; exact rfl; exact rfl; clear HM; intro w' HM; all_goals skip) | ((with_reducible apply own_made (cs := [.int .i64 (1000000 + (a : Int) * 256 + (v : Int))]) (e := 3) (n := 1) HM); exact rfl; exact made_int (1000000 + (a : Int) * 256 + (v : Int)); (focus (go_simp; done)); exact rfl; clear tg1; intro w' g1 HM'; clear HM; have HM := HM'; clear HM'; all_goals skip) | (refine own_log (x := (1000000 + (a : Int) * 256 + (v : Int))) (L := _ :: _ :: (Ra ++ l)) HM (((List.perm_append_comm.cons _).cons _).cons _) HR HN rfl rfl rfl rfl ?_; intro gg cap w1 R1 HR' HM'; clear HM HR; have HM : Hid (Own W0 w1 (_ :: _ :: ((Ra ++ l) ++ R1))) := HM'; have HR := HR'; clear HM' HR') | ((with_reducible apply own_put HM (v := .int .u8 (v : Int)) (cs := mcells m)); exact rfl; exact rfl; exact rfl; exact .s .z; exact .s .z; exact oneU8.size; exact rfl; exact rfl; (rw [mcells_length]; exact HA.out); exact rfl; clear HM; intro w' HM; all_goals skip))
  clear ha2
  go_wp2_with (first
    | ((with_reducible apply own_box HM); exact rfl; (conv => lhs; whnf); exact rfl; exact rfl; (first | (clear tg1 HM; intro w' g1 HM) | (clear tg2 HM; intro w' g2 HM) | (clear tg3 HM; intro w' g3 HM) | (clear tg4 HM; intro w' g4 HM) | (clear HM; intro w' g' HM)); all_goals skip) | ((with_reducible apply own_cell HM); exact rfl; exact rfl; (first | (with_reducible exact oneInts) | (with_reducible exact oneU8s) | (with_reducible exact oneBool)); (with_reducible first | exact .z | exact .s .z | exact .s (.s .z) | exact .s (.s (.s .z)) | exact .s (.s (.s (.s .z)))); (focus repeat' (first | with_reducible exact .z | with_reducible apply Drop.s)); exact rfl; all_goals skip) | ((with_reducible apply own_store HM); exact rfl; exact rfl; (conv => lhs; whnf); exact rfl; (with_reducible first | exact .z | exact .s .z | exact .s (.s .z) | exact .s (.s (.s .z)) | exact .s (.s (.s (.s .z)))); (focus repeat' (first | with_reducible exact .z | with_reducible apply Over.p | with_reducible apply Over.s)); (with_reducible first | exact .z | exact .s .z | exact .s (.s .z) | exact .s (.s (.s .z)) | exact .s (.s (.s (.s .z)))); (first | (with_reducible exact (oneInts).size) | (with_reducible exact (oneU8s).size) | (with_reducible exact (oneBool).size)); exact rfl; exact rfl; exact rfl; exact rfl; clear HM; intro w' HM; all_goals skip) | ((with_reducible apply own_made (cs := [.int .i64 (1000000 + (a : Int) * 256 + (v : Int))]) (e := 3) (n := 1) HM); exact rfl; exact made_int (1000000 + (a : Int) * 256 + (v : Int)); (focus (go_simp; done)); exact rfl; clear tg1; intro w' g1 HM'; clear HM; have HM := HM'; clear HM'; all_goals skip) | (refine own_log (x := (1000000 + (a : Int) * 256 + (v : Int))) (L := _ :: _ :: (Ra ++ l)) HM (((List.perm_append_comm.cons _).cons _).cons _) HR HN rfl rfl rfl rfl ?_; intro gg cap w1 R1 HR' HM'; clear HM HR; have HM : Hid (Own W0 w1 (_ :: _ :: ((Ra ++ l) ++ R1))) := HM'; have HR := HR'; clear HM' HR') | ((with_reducible apply own_put HM (v := .int .u8 (v : Int)) (cs := mcells m)); exact rfl; exact rfl; exact rfl; exact .s .z; exact .s .z; exact oneU8.size; exact rfl; exact rfl; (rw [mcells_length]; exact HA.out); exact rfl; clear HM; intro w' HM; all_goals skip))
  (try simp only [Exit.inBlock, Exit.then])
  refine bodyPost_ret (results_none rfl _ _ _) rfl ?_
  exact ⟨rfl, Fx.back (upd_lt H8.out a v HV.out) (n := n) (len_app HL.out) HNN.out HR.out HAS.out (mcells_set m a v ▸ HM.out)⟩
end Go.Proofs.YtljjgakfnajifaaGreatDoor
