import Derived.Test.YtgdeeiimkhjfiaaGreatDoorV45
import Derived.Lib.SmallJoins
import Derived.Handed
import Derived.HandedShaped
import Derived.LaidMore
import Derived.Lib.LaidTab
import Derived.MakeChecks
import Derived.Stop.Joined
set_option maxRecDepth 100000
set_option maxHeartbeats 6400000
namespace Go.Proofs.YtgdeeiimkhjfiaaGreatDoor
open Go.RowKit
section
variable {W0 w : World} {x b tq n c : Nat} {s : Cs} {ix : Bool} {pg : Int} {l : Zj}
section
variable {W0 w : World} {b n : Nat} {l : Zj} {r q : Rg} {u u' : U} {k : Nat}
theorem Zd8 (pause line : Bool) (hr : Hid r.Fits) (hq : Hid ((Cs.inter ⟨r, 0, u⟩ pause line).r = q)) (hk : Hid (Cs.interC ⟨r, 0, u⟩ pause line = k)) (hu : Hid ((Cs.inter ⟨r, 0, u⟩ pause line).u = u')) (h : Hid (Bx W0 w b u l (n + 4))) :
  CX 12 #[r.v, .iface 29 (.pointer (some ⟨b, 0, none⟩)), .bool pause, .bool line] w (.tuple #[q.v, .int .i64 (k : Int)]) fun w' => Hid q.Fits ∧ Hid (Bx W0 w' b u' l n) := by
 rw [← hq.out, ← hk.out, ← hu.out]
 exact (ZcE r u pause line hr.out h).mono fun _ _ ⟨he, hf, hb⟩ => ⟨he, Zb hf, hb⟩
theorem Zd9 (pause line : Bool) (hr : Hid r.Fits) (hq : Hid ((Cs.inter ⟨r, 0, u⟩ pause line).r = q)) (hk : Hid (Cs.interC ⟨r, 0, u⟩ pause line = k)) (hu : Hid ((Cs.inter ⟨r, 0, u⟩ pause line).u = u')) (h : Hid (Fx W0 w b u l (n + 4))) :
  CX 13 #[r.v, .pointer (some ⟨b, 0, none⟩), .bool pause, .bool line] w (.tuple #[q.v, .int .i64 (k : Int)]) fun w' => Hid (Fx W0 w' b u' l n) := by
 rw [← hq.out, ← hk.out, ← hu.out]
 exact Zd7 (s := ⟨r, 0, u⟩) pause line hr.out h
end
def mtx (m : Nat → Nat) : Value := .string (strOfNums ((List.range 65536).map fun i => (m i : Int)))
theorem Zgj {g N : Nat} {m : Nat → Nat} (hN : N = 65536) (h : Own W0 w l) (hs : Sel l g 5 (Zz m)) : (convert 26 9 (.slice (some ⟨g, 0, none⟩) N N)).run Tryz.prog w = .ok (mtx m) w := by
 unfold mtx
 rw [← hN]
 refine run_convert_bytes_arg w 26 5 Tryz.underlying26 Tryz.underlying5 g 0 N N _ (by rw [List.length_map, List.length_range]) (fun i hi => ?_) 9 Tryz.underlying9
 rw [(h.at_ hs).at_, Nat.zero_add, Y4 m i (by omega)]
 rw [List.getD_eq_getElem?_getD, List.getElem?_map, List.getElem?_range hi]
 rfl
theorem j4 {W0 : World} {a : Act} {K' : Act → Prop} {dst : Option Tmp} {ty0 : TypeId} {pos : String} {aft : Array Edge} {gd : Option (Nat × Bool)} {x : Operand} {g N : Nat} {T : ByteArray} {m : Nat → Nat} (hT : Value.string T = mtx m) (hN : N = 65536) (hx : a.eval x = .slice (some ⟨g, 0, none⟩) N N) (hs : Sel l g 5 (Zz m))
  (h : Oper.quiet Tryz.prog ⟨dst, .move (.const (.string T)), ty0, pos, aft, gd⟩ a (fun w' => Own W0 w' l) K') : Oper.quiet Tryz.prog ⟨dst, .convert 26 9 x, ty0, pos, aft, gd⟩ a (fun w' => Own W0 w' l) K' :=
 YK (fun w hC => by
  unfold execOp
  simp only [hx, Sem.run_bind, Zgj hN hC hs, hT]
  rfl) h
theorem k23 {P : Prop} (h : P := by
 have HM := Zb (Own.start w)
 go_enter Tryz.func4, Tryz.ntmps4
 go_wp2_with (first | (refine a0 ?_; clear HM; intro w' g' HM) | refine a6 ?_ | (go_at_call 5; (with_reducible refine (KO _ (Tabs.own HT HM)).mono ?_); rintro e w' ⟨rfl, hb⟩; replace HM := Zb (HM.out.call hb); clear hb) | (go_at_call 6; (with_reducible refine (KI r _ HRB _).mono ?_); rintro e w' ⟨rfl, hb⟩; replace HM := Zb (HM.out.call hb); clear hb))
 go_ret
 exact ⟨rfl, Own.fin HM⟩) : P := h
theorem Za9 (r : Rg) (_hr : r.Fits) (bs : List Nat) (a : Option Addr) (cc x y : Nat) (hq : r.right = false) (w : World) (hT : Tabs w) : CB 4 #[r.v, .slice a bs.length cc, .agg #[.int .u8 (x : Int), .int .u8 (y : Int)]] w (.bool true) := by
 have HT := Zb hT
 have HRB : Hid (r.right = false) := hq
 clear hT hq
 exact k23
theorem Zea (r : Rg) (_hr : r.Fits) (bs : List Nat) (a : Option Addr) (cc x y : Nat) (hq : r.right = true) (hl : 200 < bs.length) (w : World) (hT : Tabs w) : CB 4 #[r.v, .slice a bs.length cc, .agg #[.int .u8 (x : Int), .int .u8 (y : Int)]] w (.bool true) := by
 have HT := Zb hT
 have HRB : Hid (r.right = true) := hq
 have hl' : (200 : Int) < (bs.length : Int) := by omega
 clear hT hq hl
 exact k23
theorem Zkb (r : Rg) (hr : r.Fits) (bs : List Nat) (a : Option Addr) (cc x y : Nat) (hb : ∀ i, bs.getD i 0 < 256) (_hx : x < 256) (hy : y < 256) (hq : r.right = true) (hl : bs.length ≤ 200) (w : World) (hR : Rd w (.slice a bs.length cc) (by8 bs)) (hT : Tabs w) : CB 4 #[r.v, .slice a bs.length cc, .agg #[.int .u8 (x : Int), .int .u8 (y : Int)]] w (.bool true) := by
 have HT := Zb hT
 have HR := Zb hr
 have HRB : Hid (r.right = true) := hq
 have hl' : ¬ (200 : Int) < (bs.length : Int) := by omega
 have BL := Zb (show bs.length ≤ 65536 by omega)
 have PC := Zb hr.pc
 have HRD : Hid (∀ l, Hid (ZcJ w l a bs)) := Zb fun l => Zb (ZdW hb hR)
 clear hT hq hl hR hb hr
 have HM := Zb (Own.start w)
 have tg1 : Hid True := trivial
 have tg2 : Hid True := trivial
 go_enter Tryz.func4, Tryz.ntmps4
 go_upto_region 5 with (first | (refine a0 ?_; (first | (clear tg1 HM; intro w' g1 HM) | (clear tg2 HM; intro w' g2 HM) | (clear tg3 HM; intro w' g3 HM) | (clear tg4 HM; intro w' g4 HM) | (clear HM; intro w' g' HM))) | refine a6 ?_ | (go_at_call 5; (with_reducible refine (KO _ (Tabs.own HT HM)).mono ?_); rintro e w' ⟨rfl, hb⟩; replace HM := Zb (HM.out.call hb); clear hb) | (go_at_call 6; (with_reducible refine (KI r _ HRB _).mono ?_); rintro e w' ⟨rfl, hb⟩; replace HM := Zb (HM.out.call hb); clear hb))
 refine wp_region_held (S := fun w' => Own w w' ((g2, 45, [.int .u8 (x : Int), .int .u8 (y : Int)]) :: (g1, 25, r.cells) :: [])) (by kernel_rfl) ?_
 replace HM := Zb HM.out.drew
 change wpAnyH _ _ _ _ _ _ _ _ (World.drew _)
 have HQ := HM.out
 refine YY (i := 0) (d := 28) (v := .pointer (some ⟨g1, 19, none⟩)) rfl rfl (by kernel_rfl) (by kernel_rfl) (by kernel_rfl) (fun _ _ _ h => h) (KR rfl (fun w => by go_simp)) HQ ?_
 (try simp only [Act.put, Ze, Zc, Zd])
 refine YY (i := 1) (d := 29) (v := .int .u16 (r.pc : Int)) rfl rfl (by kernel_rfl) (by kernel_rfl) (by kernel_rfl) (fun _ _ _ h => h) (Zf7 (g := g1) (off := 19) rfl rfl oneU16 (.s .z) rfl rfl) HQ ?_
 (try simp only [Act.put, Ze, Zc, Zd])
 refine YY (i := 2) (d := 30) (v := .slice a bs.length cc) rfl rfl (by kernel_rfl) (by kernel_rfl) (by kernel_rfl) (fun _ _ _ h => h) (KR rfl (fun w => by go_simp)) HQ ?_
 (try simp only [Act.put, Ze, Zc, Zd])
 refine YY (i := 3) (d := 31) (v := .pointer (some ⟨g2, 0, none⟩)) rfl rfl (by kernel_rfl) (by kernel_rfl) (by kernel_rfl) (fun _ _ _ h => h) (KR rfl (fun w => by go_simp)) HQ ?_
 (try simp only [Act.put, Ze, Zc, Zd])
 refine YY (i := 4) (d := 32) (v := .int .u8 (x : Int)) rfl rfl (by kernel_rfl) (by kernel_rfl) (by kernel_rfl) (fun _ _ _ h => h) (Zf7 (g := g2) (off := 0) rfl rfl oneU8 .z rfl rfl) HQ ?_
 (try simp only [Act.put, Ze, Zc, Zd])
 refine YY (i := 6) (d := 34) (v := .pointer (some ⟨g1, 19, none⟩)) rfl rfl (by kernel_rfl) (by kernel_rfl) (by kernel_rfl) (fun _ _ _ h => h) (KR rfl (fun w => by go_simp)) HQ ?_
 (try simp only [Act.put, Ze, Zc, Zd])
 refine YY (i := 7) (d := 35) (v := .int .u16 (r.pc : Int)) rfl rfl (by kernel_rfl) (by kernel_rfl) (by kernel_rfl) (fun _ _ _ h => h) (Zf7 (g := g1) (off := 19) rfl rfl oneU16 (.s .z) rfl rfl) HQ ?_
 (try simp only [Act.put, Ze, Zc, Zd])
 refine YY (i := 8) (d := 36) (v := .slice a bs.length cc) rfl rfl (by kernel_rfl) (by kernel_rfl) (by kernel_rfl) (fun _ _ _ h => h) (KR rfl (fun w => by go_simp)) HQ ?_
 (try simp only [Act.put, Ze, Zc, Zd])
 refine YY (i := 9) (d := 37) (v := .pointer (some ⟨g2, 0, none⟩)) rfl rfl (by kernel_rfl) (by kernel_rfl) (by kernel_rfl) (fun _ _ _ h => h) (KR rfl (fun w => by go_simp)) HQ ?_
 (try simp only [Act.put, Ze, Zc, Zd])
 refine YY (i := 10) (d := 38) (v := .int .u8 (x : Int)) rfl rfl (by kernel_rfl) (by kernel_rfl) (by kernel_rfl) (fun _ _ _ h => h) (Zf7 (g := g2) (off := 0) rfl rfl oneU8 .z rfl rfl) HQ ?_
 (try simp only [Act.put, Ze, Zc, Zd])
 clear HQ
 refine wpAnyH_all (rs := [5]) (by kernel_rfl) (by simp) ?_
 intro i hi
 obtain rfl := List.mem_singleton.1 hi
 refine Y3 rfl rfl ?_
 refine ZgT (f := 7) (args := #[.int .u16 (r.pc : Int), .slice a bs.length cc, .int .u8 (x : Int)]) (fun w => rfl) (by go_simp) ?_
 refine (ZcL r.pc x cc bs a PC.out BL.out (HRD.out _) HM).mono ?_
 rintro e w0 ⟨b, rfl, hB⟩
 obtain ⟨hg, X, hX, hO⟩ := hB.out
 have HG := Zb hg
 have HX := Zb hX
 have HM1 := Zb hO
 clear hg hX hO hB HM
 refine ⟨_, rfl, HM1.out.left, ?_⟩
 change wpAnyH _ _ _ _ _ _ _ (Act.put _ (some 33) _) _
 (try simp only [Act.put, Ze, Zc, Zd])
 refine wpAnyH_all (rs := [11]) (by kernel_rfl) (by simp) ?_
 intro i hi
 obtain rfl := List.mem_singleton.1 hi
 refine Y3 rfl rfl ?_
 refine ZgT (f := 8) (args := #[.int .u16 (r.pc : Int), .slice a bs.length cc, .int .u8 (x : Int)]) (fun w => rfl) (by go_simp) ?_
 refine (ZjY r.pc x cc bs a PC.out BL.out (HRD.out _) HM1).mono ?_
 rintro e w1 ⟨f, rfl, hF⟩
 obtain ⟨hg, Y, hY, hO⟩ := hF.out
 have HY := Zb hY
 rw [List.append_assoc] at hO
 have HM := Zb hO
 clear hg hY hO hF HM1
 refine ⟨_, rfl, HM.out.left, ?_⟩
 change wpAnyH _ _ _ _ _ _ _ (Act.put _ (some 39) _) _
 (try simp only [Act.put, Ze, Zc, Zd])
 have HQ := HM.out.left
 refine YY (i := 12) (d := 7) (v := .pointer (some ⟨b, 0, none⟩)) rfl rfl (by kernel_rfl) (by kernel_rfl) (by kernel_rfl) (fun _ _ _ h => h) (KR rfl (fun w => by go_simp)) HQ ?_
 (try simp only [Act.put, Ze, Zc, Zd])
 refine YY (i := 13) (d := 8) (v := .pointer (some ⟨f, 0, none⟩)) rfl rfl (by kernel_rfl) (by kernel_rfl) (by kernel_rfl) (fun _ _ _ h => h) (KR rfl (fun w => by go_simp)) HQ ?_
 (try simp only [Act.put, Ze, Zc, Zd])
 clear HQ
 refine wpAnyH_done (by kernel_rfl) ?_ _
 simp only [List.cons_append, List.nil_append] at HM
 go_upto_region 6 with fail
 go_cut [9, 10] from 40 to 41 (fun s9 s10 wx => ∃ gp gq, s9 = .pointer (some ⟨gp, 0, none⟩) ∧ s10 = .pointer (some ⟨gq, 0, none⟩) ∧ Hid (Own w wx ((gq, 25, r.cells) :: (gp, 25, r.cells) :: (g2, 45, [.int .u8 (x : Int), .int .u8 (y : Int)]) :: (g1, 25, r.cells) :: (X ++ Y))))
 case' first =>
  refine wp_region_held (S := fun w' => Own w w' ((g2, 45, [.int .u8 (x : Int), .int .u8 (y : Int)]) :: (g1, 25, r.cells) :: (X ++ Y))) (by kernel_rfl) ?_
  replace HM := Zb HM.out.drew
  change wpAnyH _ _ _ _ _ _ _ _ (World.drew _)
  have HQ := HM.out
  refine YY (i := 0) (d := 40) (v := .agg r.cells.toArray) rfl rfl (by kernel_rfl) (by kernel_rfl) (by kernel_rfl) (fun _ _ _ h => h) (Zmm (g := g1) rfl rfl aggR (.s .z) (Rg.cells_length _) rfl) HQ ?_
  (try simp only [Act.put, Ze, Zc, Zd])
  refine YY (i := 1) (d := 41) (v := .agg r.cells.toArray) rfl rfl (by kernel_rfl) (by kernel_rfl) (by kernel_rfl) (fun _ _ _ h => h) (Zmm (g := g1) rfl rfl aggR (.s .z) (Rg.cells_length _) rfl) HQ ?_
  (try simp only [Act.put, Ze, Zc, Zd])
  clear HQ
  have HM0 := HM
  clear HM
  refine wpAnyH_all (rs := [2, 3]) (by kernel_rfl) (by simp) ?_
  intro i hi
  simp only [List.mem_cons, List.not_mem_nil, or_false] at hi
  rcases hi with rfl | rfl
  ·refine Y3 rfl rfl ?_
   refine U8 HM0 rfl zeroR ?_
   intro w0 gp HM1
   refine ⟨HM1.out.forget, ?_⟩
   clear HM0
   change wpAnyH _ _ _ _ _ _ _ (Act.put _ (some 9) _) _
   (try simp only [Act.put, Ze, Zc, Zd])
   refine wpAnyH_all (rs := [3]) (by kernel_rfl) (by simp) ?_
   intro i hi
   obtain rfl := List.mem_singleton.1 hi
   refine Y3 rfl rfl ?_
   refine U8 HM1 rfl zeroR ?_
   intro w1 gq HM2
   refine ⟨HM2.out.forget.forget, ?_⟩
   clear HM1
   change wpAnyH _ _ _ _ _ _ _ (Act.put _ (some 10) _) _
   (try simp only [Act.put, Ze, Zc, Zd])
   refine wpAnyH_all (rs := [4]) (by kernel_rfl) (by simp) ?_
   intro i hi
   obtain rfl := List.mem_singleton.1 hi
   refine Y3 rfl rfl ?_
   refine Zf6 HM2 rfl rfl rfl (.s .z) (.s .z) aggR.size (by first | exact Rg.cells_length _ | exact rfl) (by first | exact Rg.cells_length _ | exact rfl) (Rg.one1 _) rfl ?_
   intro w2 HM3
   refine ⟨HM3.out.forget.forget, ?_⟩
   clear HM2
   refine wpAnyH_all (rs := [5]) (by kernel_rfl) (by simp) ?_
   intro i hi
   obtain rfl := List.mem_singleton.1 hi
   refine Y3 rfl rfl ?_
   refine Zf6 HM3 rfl rfl rfl .z .z aggR.size (by first | exact Rg.cells_length _ | exact rfl) (by first | exact Rg.cells_length _ | exact rfl) (Rg.one1 _) rfl ?_
   intro w3 HM4
   refine ⟨HM4.out.forget.forget, ?_⟩
   clear HM3
   refine wpAnyH_done (by kernel_rfl) ?_ _
   go_wp2_with fail
   go_meet
   exact ⟨gp, gq, rfl, rfl, HM4⟩
  ·refine Y3 rfl rfl ?_
   refine U8 HM0 rfl zeroR ?_
   intro w0 gq HM1
   refine ⟨HM1.out.forget, ?_⟩
   clear HM0
   change wpAnyH _ _ _ _ _ _ _ (Act.put _ (some 10) _) _
   (try simp only [Act.put, Ze, Zc, Zd])
   refine wpAnyH_all (rs := [2]) (by kernel_rfl) (by simp) ?_
   intro i hi
   obtain rfl := List.mem_singleton.1 hi
   refine Y3 rfl rfl ?_
   refine U8 HM1 rfl zeroR ?_
   intro w1 gp HM2
   refine ⟨HM2.out.forget.forget, ?_⟩
   clear HM1
   change wpAnyH _ _ _ _ _ _ _ (Act.put _ (some 9) _) _
   (try simp only [Act.put, Ze, Zc, Zd])
   refine wpAnyH_all (rs := [4]) (by kernel_rfl) (by simp) ?_
   intro i hi
   obtain rfl := List.mem_singleton.1 hi
   refine Y3 rfl rfl ?_
   refine Zf6 HM2 rfl rfl rfl .z .z aggR.size (by first | exact Rg.cells_length _ | exact rfl) (by first | exact Rg.cells_length _ | exact rfl) (Rg.one1 _) rfl ?_
   intro w2 HM3
   refine ⟨HM3.out.forget.forget, ?_⟩
   clear HM2
   refine wpAnyH_all (rs := [5]) (by kernel_rfl) (by simp) ?_
   intro i hi
   obtain rfl := List.mem_singleton.1 hi
   refine Y3 rfl rfl ?_
   refine Zf6 HM3 rfl rfl rfl (.s .z) (.s .z) aggR.size (by first | exact Rg.cells_length _ | exact rfl) (by first | exact Rg.cells_length _ | exact rfl) (Rg.one1 _) rfl ?_
   intro w3 HM4
   refine ⟨HM4.out.forget.forget, ?_⟩
   clear HM3
   refine wpAnyH_done (by kernel_rfl) ?_ _
   go_wp2_with fail
   go_meet
   exact ⟨gp, gq, rfl, rfl, (Zb (HM4.out.perm (List.Perm.swap _ _ _)))⟩
 case' rest =>
 clear HM
 obtain ⟨gp, gq, rfl, rfl, HM⟩ := hcut
 apply_assumption
 go_upto_region 8 with fail
 go_loopw [11] (fun at_ wr => ∃ (k : Nat) (p : Rg) (u : U) (X Y : Zj), k ≤ 60 ∧ at_ = .int .i64 (k : Int) ∧ Hid p.Fits ∧ Hid (p.right = true) ∧ Hid (u.Good (1000000 - 11 * k)) ∧ Hid (JV X b u) ∧ Hid (yJ Y f u) ∧ Hid (Own w wr ((gq, 25, p.cells) :: (gp, 25, p.cells) :: (g2, 45, [.int .u8 (x : Int), .int .u8 (y : Int)]) :: (g1, 25, r.cells) :: (X ++ Y)))) (fun at_ _ => 60 - (intOf at_).toNat)
 case atStart => exact ⟨0, r, _, X, Y, by omega, rfl, HR, HRB, Zb (HG.out.less (by omega)), HX, HY, HM⟩
 case round =>
  clear HM HG HX HY
  obtain ⟨k, p, u, X, Y, hk, rfl, HF, HP, HG, HX, HY, HM⟩ := hrel
  by_cases hlt : k < 60
  ·have hlt2 : (k : Int) < 60 := by omega
   obtain ⟨n, hn⟩ : ∃ n, 1000000 - 11 * k = n + 7 + 4 := ⟨999989 - 11 * k, by omega⟩
   have hn2 : 1000000 - 11 * (k + 1) = n := by omega
   rw [hn] at HG
   go_upto_region 10 with fail
   go_cut [12, 13] from 42 to 126 (fun s12 s13 wx => ∃ P Q : Bool, s12 = .bool P ∧ s13 = .bool Q ∧ Hid (Own w wx ((gq, 25, p.cells) :: (gp, 25, p.cells) :: (g2, 45, [.int .u8 (x : Int), .int .u8 (y : Int)]) :: (g1, 25, r.cells) :: (X ++ Y))))
   case' first =>
    go_upto_region 11 with (first | (refine a0 ?_; (first | (clear tg1 HM; intro w' g1 HM) | (clear tg2 HM; intro w' g2 HM) | (clear tg3 HM; intro w' g3 HM) | (clear tg4 HM; intro w' g4 HM) | (clear HM; intro w' g' HM))) | ((with_reducible apply YA HM); exact rfl; exact rfl; (first | (with_reducible exact oneU8)); exact sS; exact dS; exact rfl) | ((with_reducible apply Z8 HM); exact rfl; exact rfl; (conv => lhs; whnf); exact rfl; exact sS; exact vS; exact sS; (first | (with_reducible exact (oneU8).size)); exact rfl; exact rfl; exact rfl; exact rfl; clear HM; intro w' HM))
    all_goals (go_meet; exact ⟨_, _, rfl, rfl, HM⟩)
   case' rest =>
   clear HM
   obtain ⟨P, Q, rfl, rfl, HM⟩ := hcut
   apply_assumption
   obtain ⟨q, HQ⟩ : ∃ q, Hid ((Cs.inter ⟨p, 0, u⟩ P Q).r = q) := ⟨_, rfl⟩
   obtain ⟨j, HK⟩ : ∃ j, Hid (Cs.interC ⟨p, 0, u⟩ P Q = j) := ⟨_, rfl⟩
   obtain ⟨u', HU⟩ : ∃ u', Hid ((Cs.inter ⟨p, 0, u⟩ P Q).u = u') := ⟨_, rfl⟩
   have HPQ : Hid (q.right = true) := by rw [← HQ.out]; exact Cs.inter_right _ _ _ HP.out
   have ES := Rg.same q
   have tg3 : Hid True := trivial
   have tg4 : Hid True := trivial
   go_upto_region 12 with (first | refine a6 ?_ | (go_at_call 12; have hbx : Hid (Bx _ _ b u ([_, _, _, _] ++ Y) (n + 7 + 4)) := Zb ⟨HG.out, X, HX.out, Vg (l := [_, _, _, _]) HM.out⟩; (with_reducible refine (Zd8 P Q HF HQ HK HU hbx).mono ?_); clear hbx; rintro e w' ⟨rfl, HFQ, hB⟩; obtain ⟨hg, X', hX, hO⟩ := hB.out; have HG' := Zb hg; have HX' := Zb hX; rw [List.append_assoc] at hO; have HM' := Zb hO; simp only [List.cons_append, List.nil_append] at HM'; clear hg hX hO hB HM HX; have HM := HM'; have HX := HX'; clear HM' HX') | (refine a8 ?_; (first | (clear tg3 HM; intro w' g3 HM) | (clear tg4 HM; intro w' g4 HM) | (clear HM; intro w' g' HM))) | (refine a7 ?_; clear HM; intro w' HM))
   go_upto_region 13 with (first | refine a6 ?_ | (go_at_call 13; have hfx : Hid (Fx _ _ f u ([_, _, _, _, _] ++ X') (n + 7 + 4)) := Zb ⟨HG.out, Y, HY.out, Vg (l := [_, _, _, _, _]) HM.out⟩; (with_reducible refine (Zd9 P Q HF HQ HK HU hfx).mono ?_); clear hfx; rintro e w' ⟨rfl, hB⟩; obtain ⟨hg, Y', hY, hO⟩ := hB.out; have HY' := Zb hY; rw [List.append_assoc] at hO; have HM' := Zb hO; simp only [List.cons_append, List.nil_append] at HM'; clear hg hY hO hB HM HY; have HM := HM'; have HY := HY'; clear HM' HY') | (refine a8 ?_; (first | (clear tg3 HM; intro w' g3 HM) | (clear tg4 HM; intro w' g4 HM) | (clear HM; intro w' g' HM))) | (refine a7 ?_; clear HM; intro w' HM))
   clear HF HP HG HQ HK HU
   by_cases hj : 0 < j
   ·have hj2 : 0 < (j : Int) := by omega
    go_wp2_with (first | refine a6 ?_ | (refine a7 ?_; clear HM; intro w' HM))
    go_roundw
    case rel => exact ⟨k + 1, q, u', _, _, by omega, by go_num, HFQ, HPQ, Zb (HG'.out.less (by omega)), HX, HY, Zb HM.out.forget.forget⟩
    case measure => simp [intOf]; omega
   ·have hj2 : ¬ 0 < (j : Int) := by omega
    obtain ⟨q2, HQ2⟩ : ∃ q2, Hid ((Cs.step ⟨q, 0, u'⟩).r = q2) := ⟨_, rfl⟩
    obtain ⟨j2, HK2⟩ : ∃ j2, Hid (Cs.stepC ⟨q, 0, u'⟩ = j2) := ⟨_, rfl⟩
    obtain ⟨u2, HU2⟩ : ∃ u2, Hid ((Cs.step ⟨q, 0, u'⟩).u = u2) := ⟨_, rfl⟩
    have HP2 : Hid (q2.right = true) := by rw [← HQ2.out]; exact Cs.step_right _ HPQ.out
    have H3 := Zb (Zf8 HPQ.out)
    have ES2 := Rg.same q2
    have few := Cs.few_step ⟨q, 0, u'⟩
    rw [HK2.out] at few
    have lo : ¬ (j2 : Int) < 4 := by have := few.1; omega
    have hi : ¬ (23 : Int) < (j2 : Int) := by have := few.2; omega
    clear few
    have loB : decide ((j2 : Int) < 4) = false := decide_eq_false lo
    have hiB : decide ((23 : Int) < (j2 : Int)) = false := decide_eq_false hi
    go_upto_region 19 with (first | refine a6 ?_ | (go_at_call 9; have hbx : Hid (Bx _ _ b u' ([_, _, _, _, _, _] ++ Y') (n + 7)) := Zb ⟨HG'.out, X', HX.out, Vg (l := [_, _, _, _, _, _]) HM.out⟩; (with_reducible refine (Zf9 HT HFQ HQ2 HK2 HU2 hbx).mono ?_); clear hbx; rintro e w' ⟨rfl, HF2, hB⟩; obtain ⟨hg, X2, hX, hO⟩ := hB.out; have HG2 := Zb hg; have HX' := Zb hX; rw [List.append_assoc] at hO; have HM' := Zb hO; simp only [List.cons_append, List.nil_append] at HM'; clear hg hX hO hB HM HX; have HM := HM'; have HX := HX'; clear HM' HX') | (refine a7 ?_; clear HM; intro w' HM))
    go_upto_region 20 with (first | refine a6 ?_ | (go_at_call 10; have hfx : Hid (Fx _ _ f u' ([_, _, _, _, _, _] ++ X2) (n + 7)) := Zb ⟨HG'.out, Y', HY.out, Vg (l := [_, _, _, _, _, _]) HM.out⟩; (with_reducible refine (Zga H3 HFQ HQ2 HK2 HU2 hfx).mono ?_); clear hfx; rintro e w' ⟨rfl, hB⟩; obtain ⟨hg, Y2, hY, hO⟩ := hB.out; have HY' := Zb hY; rw [List.append_assoc] at hO; have HM' := Zb hO; simp only [List.cons_append, List.nil_append] at HM'; clear hg hY hO hB HM HY; have HM := HM'; have HY := HY'; clear HM' HY') | (refine a7 ?_; clear HM; intro w' HM))
    go_wp2_with (first | refine a6 ?_ | (refine a7 ?_; clear HM; intro w' HM) | (go_at_call 6; (with_reducible refine (KI q2 _ HP2 _).mono ?_); rintro e w' ⟨rfl, hb⟩; replace HM := Zb (HM.out.call hb); clear hb))
    go_roundw
    case rel => exact ⟨k + 1, q2, u2, _, _, by omega, by go_num, HF2, HP2, Zb (HG2.out.less (by omega)), HX, HY, Zb HM.out.forget.forget⟩
    case measure => simp [intOf]; omega
  ·have hlt2 : ¬ (k : Int) < 60 := by omega
   obtain ⟨gm, lv, R1, hX, hR1⟩ := HX.out
   obtain ⟨gm2, lv2, R2, av, Ra, na, xs, hY, hR2, -⟩ := HY.out
   obtain ⟨a1, c1, rfl, hL1⟩ := ZgS hR1
   obtain ⟨a2, c2, rfl, hL2⟩ := ZgS hR2
   subst hX hY
   have hu := HG.out.2
   obtain ⟨m, g⟩ := u
   obtain ⟨n, hn⟩ : ∃ n, Hid (g.length = n) := ⟨_, rfl⟩
   obtain ⟨N, hN⟩ : ∃ N : Nat, Hid (N = 65536) := ⟨_, rfl⟩
   obtain ⟨T, HTM⟩ : ∃ T, Hid (Value.string T = mtx m) := ⟨_, rfl⟩
   have hg1 : g.length ≤ 1000000 := Nat.le_of_add_right_le hu
   have HG1 := Zb hg1
   obtain ⟨Z, hZ⟩ : ∃ Z : Zj, Z = (R1 ++ (R2 ++ Ra)) ++ [(gq, 25, p.cells), (gp, 25, p.cells), (g2, 45, [.int .u8 (x : Int), .int .u8 (y : Int)]), (g1, 25, r.cells)] := ⟨_, rfl⟩
   have hO := HM.out.perm (l' := (b, 39, [.slice (some ⟨gm, 0, none⟩) 65536 65536, .slice a1 g.length c1]) :: (f, 43, [.slice (some ⟨gm2, 0, none⟩) 65536 65536, .pointer none, .slice a2 g.length c2, .bool false, .int .u8 0, av]) :: (gm, 5, Zz m) :: (gm2, 5, Zz m) :: Z) (by
    subst hZ
    refine List.Perm.trans (List.perm_append_comm (l₁ := [_, _, _, _])) ?_
    refine List.Perm.append_right (l₂ := _ :: _ :: _ :: _ :: (R1 ++ (R2 ++ Ra))) _ ?_
    refine .cons _ ?_
    refine List.Perm.trans (.cons _ List.perm_middle) ?_
    refine List.Perm.trans (.swap _ _ _) ?_
    exact .cons _ (.cons _ List.perm_middle))
   have HL1 : Hid (∀ W, Own w W ((b, 39, [.slice (some ⟨gm, 0, none⟩) N N, .slice a1 n c1]) :: (f, 43, [.slice (some ⟨gm2, 0, none⟩) N N, .pointer none, .slice a2 n c2, .bool false, .int .u8 0, av]) :: (gm, 5, Zz m) :: (gm2, 5, Zz m) :: Z) → ZdR W a1 g) := Zb fun W h => hL1 W fun e he => (h.whole e (by rw [hZ]; simp [he])).2
   have HL2 : Hid (∀ W, Own w W ((b, 39, [.slice (some ⟨gm, 0, none⟩) N N, .slice a1 n c1]) :: (f, 43, [.slice (some ⟨gm2, 0, none⟩) N N, .pointer none, .slice a2 n c2, .bool false, .int .u8 0, av]) :: (gm, 5, Zz m) :: (gm2, 5, Zz m) :: Z) → ZdR W a2 g) := Zb fun W h => hL2 W fun e he => (h.whole e (by rw [hZ]; simp [he])).2
   rw [hn.out, ← hN.out] at hO
   clear HM HX HY hR1 hR2 hL1 hL2 hu hZ hg1 HG
   have HM := Zb hO
   clear hO
   go_upto_region 24 with fail
   (refine Zo HM (by kernel_rfl) (by kernel_rfl) ?_; (try simp only [Act.put, Ze, Zc, Zd]); repeat ((fail_if_success (with_reducible refine wpQuiet_nil ?_)); first | go_big_quiet_skip | (go_big_quiet_want; first | ((with_reducible apply j4 HTM.out hN.out); exact rfl; exact sS; go_big_quiet_op; go_big_quiet_on) | ((with_reducible apply Ko); exact rfl; (first | (with_reducible exact oneInts) | (with_reducible exact oneU8s)); exact sS; exact dS; go_big_quiet_op; go_big_quiet_on) | ((with_reducible apply Zh); exact fun w => rfl; (focus (go_simp; all_goals with_reducible rfl)); (intro wq HQ; first | exact ZaX g HG1.out n hn a1 a2 c1 c2 _ (Zb (HL1.out _ HQ)) (Zb (HL2.out _ HQ))); go_big_quiet_op; go_big_quiet_on) | (go_big_quiet_op; go_big_quiet_on) | (go_big_quiet_op; refine ⟨_, fun _ _ => rfl, ?_⟩; go_big_quiet_on))))
   exact k11
theorem Zgk (r : Rg) (hr : r.Fits) (bs : List Nat) (a : Option Addr) (cc x y : Nat) (hb : ∀ i, bs.getD i 0 < 256) (hx : x < 256) (hy : y < 256) (w : World) (hR : Rd w (.slice a bs.length cc) (by8 bs)) (hT : Tabs w) : CB 4 #[r.v, .slice a bs.length cc, .agg #[.int .u8 (x : Int), .int .u8 (y : Int)]] w (.bool true) := by
 cases hq : r.right with
 | false => exact Za9 r hr bs a cc x y hq w hT
 | true =>
  by_cases hl : 200 < bs.length
  ·exact Zea r hr bs a cc x y hq hl w hT
  ·exact Zkb r hr bs a cc x y hb hx hy hq (by omega) w hR hT
def Oct (zs : List Int) : Prop := ∀ z ∈ zs, 0 ≤ z ∧ z ≤ 255
theorem Oct.append {a b : List Int} (ha : Oct a) (hb : Oct b) : Oct (a ++ b) := by
 intro z hz
 rcases List.mem_append.1 hz with h | h
 ·exact ha z h
 ·exact hb z h
theorem Oct.set {zs : List Int} (h : Oct zs) (i : Nat) {v : Int} (h0 : 0 ≤ v) (h1 : v ≤ 255) : Oct (zs.set i v) := by
 intro z hz
 rcases List.mem_or_eq_of_mem_set hz with h' | rfl
 ·exact h z h'
 ·exact ⟨h0, h1⟩
theorem Oct.getD {zs : List Int} (h : Oct zs) (i : Nat) : 0 ≤ zs.getD i 0 ∧ zs.getD i 0 ≤ 255 := by
 rw [List.getD_eq_getElem?_getD]
 rcases Nat.lt_or_ge i zs.length with hl | hl
 ·rw [List.getElem?_eq_getElem hl]; exact h _ (List.getElem_mem hl)
 ·rw [List.getElem?_eq_none hl]; simp
open Go.ChangeShapes Go.WideShapes Go.ChangeAt Go.RowKit Go.Joins
theorem Zba {P : Program} {w : World} {r : Reach} {b0 n : Nat} {t e : TypeId} {v : Value} (ht : P.underlying t = some (.array n e)) (h : Value.okWide P w r b0 t v) : ∃ cs, v = .agg cs ∧ cs.size = P.cellsOf t := by
 simp only [Value.okWide, ht] at h
 obtain ⟨cs, h1, h2, _⟩ := h
 exact ⟨cs, h1, h2⟩
theorem Kl {H : Type} {enc : TypeId × Value → H} {P : Program} {w : World} {base : Nat} {spare : Nat → Bool} {held : Bool} {m : Nat} {e : TypeId} {k : IntKind} (he : P.underlying e = some (.int k)) (hc : P.cellsOf e = 1) :
  ∀ (cs : List Value), (∀ i, i < cs.length → ∃ x, DataW.trod enc P w base spare held m e ((cs.drop (i * P.cellsOf e)).take (P.cellsOf e)) = some x) → ∃ zs : List Int, cs = zs.map (Value.int k) ∧ ∀ z ∈ zs, (Lit.int k z).wf = true
 | [], _ => ⟨[], rfl, fun z hz => by simp at hz⟩
 | c :: r, h => by
  obtain ⟨zs, hr, hz⟩ := Kl he hc r (fun i hi => by
   obtain ⟨x, hx⟩ := h (i + 1) (by simp; omega)
   refine ⟨x, ?_⟩
   rw [hc] at hx ⊢
   simpa using hx)
  obtain ⟨x, hx⟩ := h 0 (by simp)
  rw [hc] at hx
  simp at hx
  obtain ⟨z, e1, _, wz⟩ := DataW.trod_int he hx
  simp at e1
  exact ⟨z :: zs, by rw [hr, e1]; rfl, fun y hy => by
   rcases List.mem_cons.1 hy with rfl | hy
   ·exact wz
   ·exact hz y hy⟩
theorem Wa {H : Type} {enc : TypeId × Value → H} {P : Program} {w : World} {base : Nat} {spare : Nat → Bool} {held : Bool} {r : Reach} {b0 n : Nat} {t e : TypeId} {k : IntKind} {v : Value} {d : DataW H} {ps : List MemPlace}
  (ht : P.underlying t = some (.array n e)) (he : P.underlying e = some (.int k)) (hc : P.cellsOf e = 1) (hct : P.cellsOf t = n) (hv : Value.okWide P w r b0 t v) (h : DataW.Trod enc P w base spare held t v d ps) :
  ∃ zs : List Int, v = .agg (zs.map (Value.int k)).toArray ∧ zs.length = n ∧ ∀ z ∈ zs, (Lit.int k z).wf = true := by
 obtain ⟨cs, rfl, hsz⟩ := Zba ht hv
 obtain ⟨fuel, hf⟩ := h
 obtain ⟨xs, m, _, _, _, hxl, hxs⟩ := DataW.trod_array ht hf
 have hf' : ∀ i, i < cs.toList.length → ∃ x, DataW.trod enc P w base spare held m e ((cs.toList.drop (i * P.cellsOf e)).take (P.cellsOf e)) = some x := fun i hi => by
  have hi' : i < n := by rw [← hct, ← hsz]; simpa using hi
  have := hxs i hi'
  rw [List.getElem?_eq_getElem (by omega)] at this
  exact ⟨_, this⟩
 obtain ⟨zs, hz, hw⟩ := Kl he hc cs.toList hf'
 refine ⟨zs, ?_, ?_, hw⟩
 ·rw [← hz]
 ·have := congrArg List.length hz
  simp at this
  omega
open Go.ChangeShapes Go.WideShapes Go.ChangeAt Go.RowKit Go.Joins
theorem Zgl {H : Type} {enc : TypeId × Value → H} {W : World} {b0 : Nat} {v : Value} {d : DataW H} {q : List MemPlace} (hv : Value.okWide Tryz.prog W .any b0 26 v) (h : DataW.Trod enc Tryz.prog W 0 (fun _ => true) true 26 v d q) :
  ∃ (bs : List Nat) (a : Option Addr) (c : Nat), v = .slice a bs.length c ∧ bs.length ≤ c ∧ (∀ i, bs.getD i 0 < 256) ∧ Rd W v (by8 bs) := by
 obtain ⟨a, n, cap, rfl⟩ := okWide_slice Tryz.underlying26 hv
 obtain ⟨fuel, hf⟩ := h
 rcases open_ints Tryz.underlying26 Tryz.underlying5 (by kernel_rfl) hf with ⟨hcs, _⟩ | ⟨ad, l, cp, zs, hcs, _, hl, hm, hz, _, hcell, hwf⟩
 ·simp [Value.cells] at hcs
  obtain ⟨rfl, rfl, rfl⟩ := hcs
  exact ⟨[], none, 0, rfl, Nat.le_refl _, fun i => by simp, .inl ⟨rfl, rfl⟩⟩
 ·simp [Value.cells] at hcs
  obtain ⟨rfl, rfl, rfl⟩ := hcs
  simp at hz
  have hbb : ∀ z ∈ zs, 0 ≤ z ∧ z ≤ 255 := fun z hz => bounds_u8 (hwf z hz)
  refine ⟨(zs.take n).map Int.toNat, some ad, cap, by simp [hz, Nat.min_eq_left hl], by simp [hz, Nat.min_eq_left hl]; exact hl, ?_, ?_⟩
  ·intro i
   rw [List.getD_eq_getElem?_getD, List.getElem?_map]
   cases hq : (zs.take n)[i]? with
   | none => simp
   | some z =>
    have hzm : z ∈ zs := List.mem_of_mem_take (List.mem_of_getElem? hq)
    have := hbb z hzm
    show z.toNat < 256
    omega
  ·by_cases hn : n = 0
   ·subst hn
    exact .inr (.inl ⟨ad, cap, rfl, by simp [by8]⟩)
   ·have h0 := hcell 0 (by omega)
    obtain ⟨g, o, s⟩ := ad
    have hs : s = none := by simpa [Addr.add] using World.cell?_spot h0
    subst hs
    have hg : g < W.heap.size := by
     have := World.block_lt_of_cell? W _ h0
     simpa [Addr.add] using this
    refine .inr (.inr ⟨g, o, cap, by simp [by8, hz, Nat.min_eq_left hl], hg, fun j u hu => ?_⟩)
    have ha : (⟨g, o, none⟩ : Addr).add j = ⟨g, o + j, none⟩ := by unfold Addr.add; split <;> simp_all
    simp only [by8, List.getElem?_map, Option.map_eq_some_iff] at hu
    obtain ⟨b, ⟨z, hz1, rfl⟩, rfl⟩ := hu
    have hj : j < zs.length := by
     have := (List.getElem?_eq_some_iff.1 hz1).1
     rw [List.length_take] at this
     omega
    have hi' := hcell j hj
    rw [ha] at hi'
    rw [hi']
    have hz2 : zs[j]? = some z := by
     rw [List.getElem?_take] at hz1
     split at hz1
     ·exact hz1
     ·cases hz1
    have hb := hbb z (List.mem_of_getElem? hz2)
    rw [List.getD_eq_getElem?_getD, hz2, Option.getD_some]
    show some (Value.int .u8 z) = some (.int .u8 ((z.toNat : Nat) : Int))
    rw [Int.toNat_of_nonneg hb.1]
open Go.ChangeShapes Go.WideShapes Go.ChangeAt Go.RowKit Go.Joins
theorem vB {P : Program} {w : World} : ∀ (L : List (String × DataW Unit)) (ps : List MemPlace), DataW.LaidVars P w L ps → ∀ (i : Nat) (n : String) (d : DataW Unit), L[i]? = some (n, d) →
  ∃ g t cs fuel p, P.globalNamed n = some g ∧ (P.globals[g]?).map (·.type) = some t ∧ w.var? P n = some cs ∧ DataW.trod (fun _ => ()) P w 0 (fun _ => true) false fuel t cs.toList = some (d, p)
 | [], _, _, i, n, d, h => by simp at h
 | (m, x) :: r, ps, hl, i, n, d, h => by
  obtain ⟨g, t, cs, fuel, p, q, h1, h2, h3, h4, h5, -⟩ := hl
  cases i with
  | zero =>
   simp only [List.getElem?_cons_zero, Option.some.injEq, Prod.mk.injEq] at h
   obtain ⟨rfl, rfl⟩ := h
   exact ⟨g, t, cs, fuel, p, h1, h2, h3, h4⟩
  | succ i => exact vB r q h5 i n d (by simpa using h)
theorem ZgU {w : World} {ps : List MemPlace} {L : List (String × DataW Unit)} (h : DataW.LaidVars Tryz.prog w L ps) (i g : Nat) (t : TypeId) (l : List Int) (nm : String)
  (hi : L[i]? = some (nm, Lib.tabData .u8 l)) (hg : Tryz.prog.globalNamed nm = some g) (hty : (Tryz.prog.globals[g]?).map (·.type) = some t)
  (ht : Tryz.prog.underlying t = some (.array l.length 5)) (hc1 : Tryz.prog.cellsOf 5 = 1) (hct : Tryz.prog.cellsOf t = l.length) : ∀ k < l.length, w.cell? ⟨g, k, none⟩ = some (.int .u8 (l.getD k 0)) := by
 obtain ⟨g', t', cs, fuel, p, h1, h2, h3, h4⟩ := vB _ _ h i nm _ hi
 obtain rfl := Option.some.inj (hg.symm.trans h1)
 obtain rfl := Option.some.inj (hty.symm.trans h2)
 have hT : Lib.TabIs Tryz.prog w nm .u8 l := by
  unfold Lib.TabIs
  rw [h3, ← Lib.cells_of_tab ht Tryz.underlying5 hc1 hct h4]
 exact fun k hk => hT.cell hg k hk
theorem Zkc {W : World} (h : laidMetH Tryz.prog Rows.cpuStepsRow.laid W) : Tabs W := by
 rw [MakeChecks.laidMetH_plain _ _ _ (by kernel_rfl)] at h
 obtain ⟨ps, h, -⟩ := h
 exact ⟨fun j hj => ZgU h 0 1 131 askTab "joystick/regs.asked" (by kernel_rfl) (by kernel_rfl) (by kernel_rfl) Tryz.underlying131 (by kernel_rfl) (by kernel_rfl) j hj,
  fun j hj => ZgU h 1 0 131 modeTab "joystick/cpu.modes" (by kernel_rfl) (by kernel_rfl) (by kernel_rfl) Tryz.underlying131 (by kernel_rfl) (by kernel_rfl) j hj⟩
end
end Go.Proofs.YtgdeeiimkhjfiaaGreatDoor
