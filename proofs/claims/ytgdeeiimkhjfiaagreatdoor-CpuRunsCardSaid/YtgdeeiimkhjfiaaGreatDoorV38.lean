import Derived.Test.YtgdeeiimkhjfiaaGreatDoorV37
set_option maxRecDepth 100000
set_option maxHeartbeats 6400000
namespace Go.Proofs.YtgdeeiimkhjfiaaGreatDoor
open Go.RowKit
section
variable {W0 w : World} {x b tq n c : Nat} {s : Cs} {ix : Bool} {pg : Int} {l : Zj}
theorem Uf (s part : Tx) (b : Bool) (hs : s.length ≤ 24) (ho : part ≠ []) (hol : part.length ≤ 8) (hb : Hid (Jh s part = b)) (w : World) :
  CB 21 #[.string ⟨s.toArray⟩, .string ⟨part.toArray⟩] w (.bool b) := by
 rw [← hb.out]; exact ZgF s part (by omega) ho hol w
theorem Ug (page : Int) (n : Nat) (t : Tx) (hn : n < 256) (ht : Hid (Zn page n = t)) (w : World) : CB 20 #[.int .i64 page, .int .u8 (n : Int)] w (.string ⟨t.toArray⟩) := by
 rw [← ht.out]; exact ZiE page n hn w
theorem idxX (w : World) : (Instr.index 61 (.agg #[.string ⟨#[73, 88]⟩, .string ⟨#[73, 89]⟩]) (.int .i64 0)).run Tryz.prog w = .ok (.string ⟨#[73, 88]⟩) w := by kernel_rfl
theorem idxY (w : World) : (Instr.index 61 (.agg #[.string ⟨#[73, 88]⟩, .string ⟨#[73, 89]⟩]) (.int .i64 1)).run Tryz.prog w = .ok (.string ⟨#[73, 89]⟩) w := by kernel_rfl
abbrev Zg (t : Tx) (page : Int) (s : Cs) (tq : Nat) (ix : Bool) (k : Nat) (c : Int) (s' : Cs) : Prop :=
 ∀ (W0 w : World) (x b n : Nat) (pg : Int) (l : Zj), Hid (Ex W0 w x b s tq ix pg l (n + k)) → Calls Tryz.prog 23 #[.pointer (some ⟨x, 0, none⟩), .string ⟨t.toArray⟩, .int .i64 page] w fun e w' => e = .returned (.int .i64 c) ∧ ∃ tq' ix', Hid (Ex W0 w' x b s' tq' ix' page l n)
theorem ZfJ (hh : s.r.ht = true) (hr : s.r.Fits) (h : Hid (Fx W0 w b s.u l (n + 1))) :
  CX 10 #[s.r.v, .pointer (some ⟨b, 0, none⟩)] w (.tuple #[(s.tick).r.v, .int .i64 4]) fun w' => Hid (Fx W0 w' b (s.tick).u l n) := by
 obtain ⟨hg, X, hX, hO⟩ := h.out
 have HG := Zb hg
 have HX := Zb hX
 have HM := Zb hO
 have HR := Zb hr
 have hbx : ∀ w, (Instr.build 58 #[(0, s.r.v), (1, .pointer (some ⟨b, 0, none⟩))]).run Tryz.prog w = .ok (.agg (xc (s.ahead s.r.px) b 0 false 0).toArray) w := ZZ s.r s.r.px b s.u
 clear h hg hX hO
 clear hr
 go_enter Tryz.func10, Tryz.ntmps10
 go_wp2_with (first | (exact absurd (hh.symm.trans (by assumption : s.r.ht = false)) Bool.noConfusion) | (refine b0 ?_; clear HM; intro w' g' HM) | refine b12 ?_ | (refine a22 ?_; clear HM; intro w' HM) | (go_at_call 16; (with_reducible refine (JW s.r HR.out.r _).mono ?_); rintro e w' ⟨rfl, hb⟩; replace HM := Zb (HM.out.call hb); clear hb))
 refine bodyPost_ret (v := .tuple #[(s.tick).r.v, .int .i64 4]) (ZD HM Tryz.results10 _ rfl rfl .z aggR (Rg.cells_length _)) rfl ⟨rfl, Zb ⟨HG.out.less (by omega), _, HX.out, HM.out.rest.rest⟩⟩
theorem vh (hh : s.r.ht = false) (s0 : Cs) (hs0 : Hid (s.begun = s0)) (o : Nat) (s1 : Cs) (ho : Hid (s0.nextV = o)) (hs1 : Hid (s0.fetch = s1)) (hp : o = 221 ∨ o = 253) (hr : s.r.Fits) (h : Hid (Fx W0 w b s.u l (n + 1))) :
  CX 10 #[s.r.v, .pointer (some ⟨b, 0, none⟩)] w (.tuple #[(s1.setPX o).r.v, .int .i64 4]) fun w' => Hid (Fx W0 w' b (s1.setPX o).u l n) := by
 obtain ⟨hg, X, hX, hO⟩ := h.out
 have HG := Zb hg
 have HX := Zb hX
 have HM := Zb hO
 have HR := Zb hr
 have hbx : ∀ w, (Instr.build 58 #[(0, s.r.v), (1, .pointer (some ⟨b, 0, none⟩))]).run Tryz.prog w = .ok (.agg (xc (s.ahead s.r.px) b 0 false 0).toArray) w := ZZ s.r s.r.px b s.u
 clear h hg hX hO
 have tg1 : Hid True := trivial
 have tg2 : Hid True := trivial
 have tg3 : Hid True := trivial
 have o8 : o < 256 := by rcases hp with rfl | rfl <;> decide
 clear hr
 rcases hp with rfl | rfl
 all_goals
  have z256 : (0 : Nat) < 256 := by decide
  go_enter Tryz.func10, Tryz.ntmps10
  go_upto_region 4 with (first | (exact absurd (hh.symm.trans (by assumption : s.r.ht = true)) Bool.noConfusion) | refine b17 ?_ | (refine a32 ?_; clear tg3; intro w' g3 HM'; clear HM; have HM := HM'; clear HM') | (refine b0 ?_; (first | (clear tg1 HM; intro w' g1 HM) | (clear tg2 HM; intro w' g2 HM) | (clear tg3 HM; intro w' g3 HM) | (clear HM; intro w' g' HM))))
  have H := Zb (Ex.made (l := _ :: _ :: l) HM.out HG.out HX.out HR.out)
  clear HM HG HX
  go_upto_region 7 with (first | refine a33 ?_ | (refine a2 ?_; clear H; intro w' H) | fail)
  rw [show (((s.ahead s.r.px).setPX 0).setDL false) = s.begun from rfl, hs0.out] at H
  go_upto_region 9 with (first | (go_at_call 17; (with_reducible refine (Ka _ s1 ho hs1 H).mono ?_); clear H; rintro e w' ⟨rfl, bo, H⟩) | fail)
  go_upto_region 15 with (first | refine a1 ?_ | (refine a2 ?_; clear H; intro w' H) | fail)
  obtain ⟨HF, HG, X, HX, HM⟩ := H.out.hid
  clear H
  go_wp2_with (first | refine a23 ?_ | (refine a22 ?_; clear HM; intro w' HM))
  refine bodyPost_ret (v := .tuple #[(s1.setPX _).r.v, .int .i64 4]) (ZD HM Tryz.results10 _ rfl rfl (.s .z) aggR (Rg.cells_length _)) rfl ⟨rfl, Zb ⟨HG.out.less (by omega), _, HX.out, HM.out.rest.rest.rest⟩⟩
theorem Yz (h : s.r.Fits) : s.begun.r.Fits := { h with px := by show 0 < 256; decide }
theorem next_fits (h : s.r.Fits) : s.next.r.Fits := { h with pc := Zy _ }
theorem Z5 (h : s.r.Fits) : s.fetch.r.Fits := tick_fits _ (next_fits h)
theorem k0 {P : Prop} (h : P := by
 obtain ⟨HF, HG, X, HX, HM⟩ := H.out.hid
 clear H
 go_wp2_with (first | refine a23 ?_ | (refine a22 ?_; clear HM; intro w' HM))
 refine bodyPost_ret (v := .tuple #[(s').r.v, .int .i64 c]) (ZD HM Tryz.results10 _ rfl rfl (.s .z) aggR (Rg.cells_length _)) rfl ⟨rfl, Zb ⟨HG.out.less (by omega), _, HX.out, HM.out.rest.rest.rest⟩⟩) : P := h
theorem k69 {P : Prop} (h : P := by
 go_upto_region 33 with (first | (go_at_call 23; (with_reducible refine (HD.out _ _ _ _ _ _ _ H).mono ?_); clear H; rintro e w' ⟨rfl, tq', ix', H⟩) | fail)
 exact k0) : P := h
theorem vj (hh : s.r.ht = false) (s0 : Cs) (hs0 : Hid (s.begun = s0)) (o : Nat) (s1 : Cs) (ho : Hid (s0.nextV = o)) (hs1 : Hid (s0.fetch = s1)) (hpx : s.r.px = 0) (h1 : ¬ o = 221) (h2 : ¬ o = 253) (h3 : ¬ o = 237) (h4 : ¬ o = 203) (t : Tx) (ht : Hid (Zn 0 o = t)) (lt : t.length ≤ 24) (B : Bool) (hB : Hid (Jh t [40, 72, 76, 41] = B)) (z : Nat) (hz : Hid (s1.r.h * 256 + s1.r.l = z)) (k : Nat) (c : Int) (s' : Cs) (D : Zg t 0 s1 (cond B z 0) false k c s') (hr : s.r.Fits) (h : Hid (Fx W0 w b s.u l (n + k + 1))) :
  CX 10 #[s.r.v, .pointer (some ⟨b, 0, none⟩)] w (.tuple #[(s').r.v, .int .i64 c]) fun w' => Hid (Fx W0 w' b (s').u l n) := by
 obtain ⟨hg, X, hX, hO⟩ := h.out
 have HG := Zb hg
 have HX := Zb hX
 have HM := Zb hO
 have HR := Zb hr
 have hbx : ∀ w, (Instr.build 58 #[(0, s.r.v), (1, .pointer (some ⟨b, 0, none⟩))]).run Tryz.prog w = .ok (.agg (xc (s.ahead s.r.px) b 0 false 0).toArray) w := ZZ s.r s.r.px b s.u
 clear h hg hX hO
 have tg1 : Hid True := trivial
 have tg2 : Hid True := trivial
 have tg3 : Hid True := trivial
 have HD := Zb D
 clear D
 have hf1 : s1.r.Fits := by rw [← hs1.out, ← hs0.out]; exact Z5 (Yz HR.out)
 have z8 : z < 65536 := by rw [← hz.out]; exact nmHL.lt _ hf1
 have n221 : ((o : Int) == 221) = false := by rw [beq_eq_false_iff_ne]; omega
 have n253 : ((o : Int) == 253) = false := by rw [beq_eq_false_iff_ne]; omega
 have n237 : ((o : Int) == 237) = false := by rw [beq_eq_false_iff_ne]; omega
 have n203 : ((o : Int) == 203) = false := by rw [beq_eq_false_iff_ne]; omega
 clear hr
 have z256 : (0 : Nat) < 256 := by decide
 go_enter Tryz.func10, Tryz.ntmps10
 go_upto_region 4 with (first | (exact absurd (hh.symm.trans (by assumption : s.r.ht = true)) Bool.noConfusion) | refine b17 ?_ | (refine a32 ?_; clear tg3; intro w' g3 HM'; clear HM; have HM := HM'; clear HM') | (refine b0 ?_; (first | (clear tg1 HM; intro w' g1 HM) | (clear tg2 HM; intro w' g2 HM) | (clear tg3 HM; intro w' g3 HM) | (clear HM; intro w' g' HM))))
 have H := Zb (Ex.made (l := _ :: _ :: l) HM.out HG.out HX.out HR.out)
 clear HM HG HX
 go_upto_region 7 with (first | refine a33 ?_ | (refine a2 ?_; clear H; intro w' H) | fail)
 rw [show (((s.ahead s.r.px).setPX 0).setDL false) = s.begun from rfl, hs0.out] at H
 go_upto_region 9 with (first | (go_at_call 17; (with_reducible refine (Ka _ s1 ho hs1 H).mono ?_); clear H; rintro e w' ⟨rfl, bo, H⟩) | fail)
 go_upto_region 27 with (first | refine a1 ?_ | (go_at_call 20; (with_reducible refine (Ug _ _ t bo ht _).mono ?_); rintro e w' ⟨rfl, hb⟩; replace H := Zb (H.out.call hb); clear hb) | fail)
 go_upto_if 91 with (first | (go_at_call 21; (with_reducible refine (Uf t [40, 72, 76, 41] _ lt (by decide) (by decide) hB _).mono ?_); rintro e w' ⟨rfl, hb⟩; replace H := Zb (H.out.call hb); clear hb))
 cases B
 ·go_upto_region 33 with (first | (go_at_call 23; (with_reducible refine (HD.out _ _ _ _ _ _ _ H).mono ?_); clear H; rintro e w' ⟨rfl, tq', ix', H⟩) | fail)
  exact k0
 ·go_upto_region 32 with (first | (refine a2 ?_; clear H; intro w' H) | (go_at_call 22; (with_reducible refine (Yq nmHL z hz H).mono ?_); clear H; rintro e w' ⟨rfl, H⟩) | fail)
  exact k69
theorem vk (hh : s.r.ht = false) (s0 : Cs) (hs0 : Hid (s.begun = s0)) (o : Nat) (s1 : Cs) (ho : Hid (s0.nextV = o)) (hs1 : Hid (s0.fetch = s1)) (hpx : s.r.px = 0) (h4 : o = 203) (p : Nat) (s2 : Cs) (ho2 : Hid (s1.nextV = p)) (hs2 : Hid (s1.fetch = s2)) (t : Tx) (ht : Hid (Zn 1 p = t)) (lt : t.length ≤ 24) (B : Bool) (hB : Hid (Jh t [40, 72, 76, 41] = B)) (z : Nat) (hz : Hid (s2.r.h * 256 + s2.r.l = z)) (k : Nat) (c : Int) (s' : Cs) (D : Zg t 1 s2 (cond B z 0) false k c s') (hr : s.r.Fits) (h : Hid (Fx W0 w b s.u l (n + k + 2))) :
  CX 10 #[s.r.v, .pointer (some ⟨b, 0, none⟩)] w (.tuple #[(s').r.v, .int .i64 c]) fun w' => Hid (Fx W0 w' b (s').u l n) := by
 obtain ⟨hg, X, hX, hO⟩ := h.out
 have HG := Zb hg
 have HX := Zb hX
 have HM := Zb hO
 have HR := Zb hr
 have hbx : ∀ w, (Instr.build 58 #[(0, s.r.v), (1, .pointer (some ⟨b, 0, none⟩))]).run Tryz.prog w = .ok (.agg (xc (s.ahead s.r.px) b 0 false 0).toArray) w := ZZ s.r s.r.px b s.u
 clear h hg hX hO
 have tg1 : Hid True := trivial
 have tg2 : Hid True := trivial
 have tg3 : Hid True := trivial
 have HD := Zb D
 clear D
 have hf1 : s1.r.Fits := by rw [← hs1.out, ← hs0.out]; exact Z5 (Yz HR.out)
 have hf2 : s2.r.Fits := by rw [← hs2.out]; exact Z5 hf1
 have z8 : z < 65536 := by rw [← hz.out]; exact nmHL.lt _ hf2
 subst h4
 clear hr
 have z256 : (0 : Nat) < 256 := by decide
 go_enter Tryz.func10, Tryz.ntmps10
 go_upto_region 4 with (first | (exact absurd (hh.symm.trans (by assumption : s.r.ht = true)) Bool.noConfusion) | refine b17 ?_ | (refine a32 ?_; clear tg3; intro w' g3 HM'; clear HM; have HM := HM'; clear HM') | (refine b0 ?_; (first | (clear tg1 HM; intro w' g1 HM) | (clear tg2 HM; intro w' g2 HM) | (clear tg3 HM; intro w' g3 HM) | (clear HM; intro w' g' HM))))
 have H := Zb (Ex.made (l := _ :: _ :: l) HM.out HG.out HX.out HR.out)
 clear HM HG HX
 go_upto_region 7 with (first | refine a33 ?_ | (refine a2 ?_; clear H; intro w' H) | fail)
 rw [show (((s.ahead s.r.px).setPX 0).setDL false) = s.begun from rfl, hs0.out] at H
 go_upto_region 9 with (first | (go_at_call 17; (with_reducible refine (Ka _ s1 ho hs1 H).mono ?_); clear H; rintro e w' ⟨rfl, bo, H⟩) | fail)
 go_upto_region 26 with (first | refine a1 ?_ | (go_at_call 17; (with_reducible refine (Ka _ s2 ho2 hs2 H).mono ?_); clear H; rintro e w' ⟨rfl, bp, H⟩) | fail)
 go_upto_region 27 with (first | refine a1 ?_ | (go_at_call 20; (with_reducible refine (Ug _ _ t bp ht _).mono ?_); rintro e w' ⟨rfl, hb⟩; replace H := Zb (H.out.call hb); clear hb) | fail)
 go_upto_if 91 with (first | (go_at_call 21; (with_reducible refine (Uf t [40, 72, 76, 41] _ lt (by decide) (by decide) hB _).mono ?_); rintro e w' ⟨rfl, hb⟩; replace H := Zb (H.out.call hb); clear hb))
 cases B
 ·go_upto_region 33 with (first | (go_at_call 23; (with_reducible refine (HD.out _ _ _ _ _ _ _ H).mono ?_); clear H; rintro e w' ⟨rfl, tq', ix', H⟩) | fail)
  exact k0
 ·go_upto_region 32 with (first | (refine a2 ?_; clear H; intro w' H) | (go_at_call 22; (with_reducible refine (Yq nmHL z hz H).mono ?_); clear H; rintro e w' ⟨rfl, H⟩) | fail)
  exact k69
theorem ZfK (hh : s.r.ht = false) (s0 : Cs) (hs0 : Hid (s.begun = s0)) (o : Nat) (s1 : Cs) (ho : Hid (s0.nextV = o)) (hs1 : Hid (s0.fetch = s1)) (h4 : o = 237) (p : Nat) (s2 : Cs) (ho2 : Hid (s1.nextV = p)) (hs2 : Hid (s1.fetch = s2)) (t : Tx) (ht : Hid (Zn 2 p = t)) (lt : t.length ≤ 24) (B : Bool) (hB : Hid (Jh t [40, 72, 76, 41] = B)) (z : Nat) (hz : Hid (s2.r.h * 256 + s2.r.l = z)) (k : Nat) (c : Int) (s' : Cs) (D : Zg t 2 s2 (cond B z 0) false k c s') (hr : s.r.Fits) (h : Hid (Fx W0 w b s.u l (n + k + 2))) :
  CX 10 #[s.r.v, .pointer (some ⟨b, 0, none⟩)] w (.tuple #[(s').r.v, .int .i64 c]) fun w' => Hid (Fx W0 w' b (s').u l n) := by
 obtain ⟨hg, X, hX, hO⟩ := h.out
 have HG := Zb hg
 have HX := Zb hX
 have HM := Zb hO
 have HR := Zb hr
 have hbx : ∀ w, (Instr.build 58 #[(0, s.r.v), (1, .pointer (some ⟨b, 0, none⟩))]).run Tryz.prog w = .ok (.agg (xc (s.ahead s.r.px) b 0 false 0).toArray) w := ZZ s.r s.r.px b s.u
 clear h hg hX hO
 have tg1 : Hid True := trivial
 have tg2 : Hid True := trivial
 have tg3 : Hid True := trivial
 have HD := Zb D
 clear D
 have hf1 : s1.r.Fits := by rw [← hs1.out, ← hs0.out]; exact Z5 (Yz HR.out)
 have hf2 : s2.r.Fits := by rw [← hs2.out]; exact Z5 hf1
 have z8 : z < 65536 := by rw [← hz.out]; exact nmHL.lt _ hf2
 subst h4
 clear hr
 have z256 : (0 : Nat) < 256 := by decide
 go_enter Tryz.func10, Tryz.ntmps10
 go_upto_region 4 with (first | (exact absurd (hh.symm.trans (by assumption : s.r.ht = true)) Bool.noConfusion) | refine b17 ?_ | (refine a32 ?_; clear tg3; intro w' g3 HM'; clear HM; have HM := HM'; clear HM') | (refine b0 ?_; (first | (clear tg1 HM; intro w' g1 HM) | (clear tg2 HM; intro w' g2 HM) | (clear tg3 HM; intro w' g3 HM) | (clear HM; intro w' g' HM))))
 have H := Zb (Ex.made (l := _ :: _ :: l) HM.out HG.out HX.out HR.out)
 clear HM HG HX
 go_upto_region 7 with (first | refine a33 ?_ | (refine a2 ?_; clear H; intro w' H) | fail)
 rw [show (((s.ahead s.r.px).setPX 0).setDL false) = s.begun from rfl, hs0.out] at H
 go_upto_region 9 with (first | (go_at_call 17; (with_reducible refine (Ka _ s1 ho hs1 H).mono ?_); clear H; rintro e w' ⟨rfl, bo, H⟩) | fail)
 go_upto_region 26 with (first | refine a1 ?_ | (go_at_call 17; (with_reducible refine (Ka _ s2 ho2 hs2 H).mono ?_); clear H; rintro e w' ⟨rfl, bp, H⟩) | fail)
 go_upto_region 27 with (first | refine a1 ?_ | (go_at_call 20; (with_reducible refine (Ug _ _ t bp ht _).mono ?_); rintro e w' ⟨rfl, hb⟩; replace H := Zb (H.out.call hb); clear hb) | fail)
 go_upto_if 91 with (first | (go_at_call 21; (with_reducible refine (Uf t [40, 72, 76, 41] _ lt (by decide) (by decide) hB _).mono ?_); rintro e w' ⟨rfl, hb⟩; replace H := Zb (H.out.call hb); clear hb))
 cases B
 ·go_upto_region 33 with (first | (go_at_call 23; (with_reducible refine (HD.out _ _ _ _ _ _ _ H).mono ?_); clear H; rintro e w' ⟨rfl, tq', ix', H⟩) | fail)
  exact k0
 ·go_upto_region 32 with (first | (refine a2 ?_; clear H; intro w' H) | (go_at_call 22; (with_reducible refine (Yq nmHL z hz H).mono ?_); clear H; rintro e w' ⟨rfl, H⟩) | fail)
  exact k69
theorem k68 {P : Prop} (h : P := by
 go_upto_if 91 with (first | (go_at_call 21; (with_reducible refine (Uf t [40, 72, 76, 41] _ lt (by decide) (by decide) hB _).mono ?_); rintro e w' ⟨rfl, hb⟩; replace H := Zb (H.out.call hb); clear hb))
 cases B
 ·go_upto_region 33 with (first | (go_at_call 23; (with_reducible refine (HD.out _ _ _ _ _ _ _ H).mono ?_); clear H; rintro e w' ⟨rfl, tq', ix', H⟩) | fail)
  exact k0
 ·go_upto_region 32 with (first | (refine a2 ?_; clear H; intro w' H) | (go_at_call 22; (with_reducible refine (Yq nmHL z hz H).mono ?_); clear H; rintro e w' ⟨rfl, H⟩) | fail)
  go_upto_region 33 with (first | (go_at_call 23; (with_reducible refine (HD.out _ _ _ _ _ _ _ H).mono ?_); clear H; rintro e w' ⟨rfl, tq', ix', H⟩) | fail)
  exact k0) : P := h
theorem zo (hh : s.r.ht = false) (s0 : Cs) (hs0 : Hid (s.begun = s0)) (o : Nat) (s1 : Cs) (ho : Hid (s0.nextV = o)) (hs1 : Hid (s0.fetch = s1)) (px : Nat) (pgx : Int) (gx : Rg → Nat) (hpq : (px = 221 ∧ pgx = 5 ∧ gx = Rg.ix) ∨ (px = 253 ∧ pgx = 6 ∧ gx = Rg.iy)) (hpx : s.r.px = px) (h4 : o = 203) (v q : Nat) (s2 : Cs) (hv : Hid (s1.nextV = v)) (hq : Hid (wMove (gx s1.r) v = q)) (hs2 : Hid (s1.next.setWZ q = s2)) (p : Nat) (s3 : Cs) (ho2 : Hid (s2.nextV = p)) (hs3 : Hid (s2.next = s3)) (t : Tx) (ht : Hid (Zn pgx p = t)) (lt : t.length ≤ 24) (B : Bool) (hB : Hid (Jh t [40, 72, 76, 41] = B)) (z : Nat) (hz : Hid (s3.r.h * 256 + s3.r.l = z)) (k : Nat) (c : Int) (s' : Cs) (D : Zg t pgx s3 (cond B z q) true k c s') (hr : s.r.Fits) (h : Hid (Fx W0 w b s.u l (n + k + 3))) :
  CX 10 #[s.r.v, .pointer (some ⟨b, 0, none⟩)] w (.tuple #[(s').r.v, .int .i64 c]) fun w' => Hid (Fx W0 w' b (s').u l n) := by
 rcases hpq with ⟨rfl, rfl, rfl⟩ | ⟨rfl, rfl, rfl⟩
 all_goals
  obtain ⟨hg, X, hX, hO⟩ := h.out
  have HG := Zb hg
  have HX := Zb hX
  have HM := Zb hO
  have HR := Zb hr
  have hbx : ∀ w, (Instr.build 58 #[(0, s.r.v), (1, .pointer (some ⟨b, 0, none⟩))]).run Tryz.prog w = .ok (.agg (xc (s.ahead s.r.px) b 0 false 0).toArray) w := ZZ s.r s.r.px b s.u
  clear h hg hX hO
  have tg1 : Hid True := trivial
  have tg2 : Hid True := trivial
  have tg3 : Hid True := trivial
  have HD := Zb D
  clear D
  have hf1 : s1.r.Fits := by rw [← hs1.out, ← hs0.out]; exact Z5 (Yz HR.out)
  have q8 : q < 65536 := by rw [← hq.out]; exact Zt _ _
  have hf2 : s2.r.Fits := by rw [← hs2.out]; exact { next_fits hf1 with wz := q8 }
  have hf3 : s3.r.Fits := by rw [← hs3.out]; exact next_fits hf2
  have z8 : z < 65536 := by rw [← hz.out]; exact nmHL.lt _ hf3
  have ixk := idxX
  have iyk := idxY
  subst h4
  clear hr
  have z256 : (0 : Nat) < 256 := by decide
  go_enter Tryz.func10, Tryz.ntmps10
  go_upto_region 4 with (first | (exact absurd (hh.symm.trans (by assumption : s.r.ht = true)) Bool.noConfusion) | refine b17 ?_ | (refine a32 ?_; clear tg3; intro w' g3 HM'; clear HM; have HM := HM'; clear HM') | (refine b0 ?_; (first | (clear tg1 HM; intro w' g1 HM) | (clear tg2 HM; intro w' g2 HM) | (clear tg3 HM; intro w' g3 HM) | (clear HM; intro w' g' HM))))
  have H := Zb (Ex.made (l := _ :: _ :: l) HM.out HG.out HX.out HR.out)
  clear HM HG HX
  go_upto_region 7 with (first | refine a33 ?_ | (refine a2 ?_; clear H; intro w' H) | fail)
  rw [show (((s.ahead s.r.px).setPX 0).setDL false) = s.begun from rfl, hs0.out] at H
  go_upto_region 9 with (first | (go_at_call 17; (with_reducible refine (Ka _ s1 ho hs1 H).mono ?_); clear H; rintro e w' ⟨rfl, bo, H⟩) | fail)
  go_upto_region 25 with (first | refine a1 ?_ | (go_at_call 18; (with_reducible refine (yR nmIX v q s2 hv hq hs2 H).mono ?_); clear H; rintro e w' ⟨rfl, _, H⟩) | (go_at_call 18; (with_reducible refine (yR nmIY v q s2 hv hq hs2 H).mono ?_); clear H; rintro e w' ⟨rfl, _, H⟩) | fail)
  go_upto_region 26 with (first | (go_at_call 19; (with_reducible refine (VC _ s3 ho2 hs3 H).mono ?_); clear H; rintro e w' ⟨rfl, bp, H⟩) | fail)
  go_upto_region 27 with (first | refine a1 ?_ | (go_at_call 20; (with_reducible refine (Ug _ _ t bp ht _).mono ?_); rintro e w' ⟨rfl, hb⟩; replace H := Zb (H.out.call hb); clear hb) | fail)
  exact k68
theorem Uh (hh : s.r.ht = false) (s0 : Cs) (hs0 : Hid (s.begun = s0)) (o : Nat) (s1 : Cs) (ho : Hid (s0.nextV = o)) (hs1 : Hid (s0.fetch = s1)) (px : Nat) (pgx : Int) (hpq : (px = 221 ∧ pgx = 3) ∨ (px = 253 ∧ pgx = 4)) (hpx : s.r.px = px) (h1 : ¬ o = 221) (h2 : ¬ o = 253) (h3 : ¬ o = 237) (h4 : ¬ o = 203) (hd : Hid (Jh (Zn pgx o) [43, 100] = false)) (t : Tx) (ht : Hid (Zn pgx o = t)) (lt : t.length ≤ 24) (B : Bool) (hB : Hid (Jh t [40, 72, 76, 41] = B)) (z : Nat) (hz : Hid (s1.r.h * 256 + s1.r.l = z)) (k : Nat) (c : Int) (s' : Cs) (D : Zg t pgx s1 (cond B z 0) false k c s') (hr : s.r.Fits) (h : Hid (Fx W0 w b s.u l (n + k + 1))) :
  CX 10 #[s.r.v, .pointer (some ⟨b, 0, none⟩)] w (.tuple #[(s').r.v, .int .i64 c]) fun w' => Hid (Fx W0 w' b (s').u l n) := by
 rcases hpq with ⟨rfl, rfl⟩ | ⟨rfl, rfl⟩
 all_goals
  obtain ⟨hg, X, hX, hO⟩ := h.out
  have HG := Zb hg
  have HX := Zb hX
  have HM := Zb hO
  have HR := Zb hr
  have hbx : ∀ w, (Instr.build 58 #[(0, s.r.v), (1, .pointer (some ⟨b, 0, none⟩))]).run Tryz.prog w = .ok (.agg (xc (s.ahead s.r.px) b 0 false 0).toArray) w := ZZ s.r s.r.px b s.u
  clear h hg hX hO
  have tg1 : Hid True := trivial
  have tg2 : Hid True := trivial
  have tg3 : Hid True := trivial
  have HD := Zb D
  clear D
  have hf1 : s1.r.Fits := by rw [← hs1.out, ← hs0.out]; exact Z5 (Yz HR.out)
  have z8 : z < 65536 := by rw [← hz.out]; exact nmHL.lt _ hf1
  have n221 : ((o : Int) == 221) = false := by rw [beq_eq_false_iff_ne]; omega
  have n253 : ((o : Int) == 253) = false := by rw [beq_eq_false_iff_ne]; omega
  have n237 : ((o : Int) == 237) = false := by rw [beq_eq_false_iff_ne]; omega
  have n203 : ((o : Int) == 203) = false := by rw [beq_eq_false_iff_ne]; omega
  have hd' : Hid (Jh t [43, 100] = false) := Zb (by rw [← ht.out]; exact hd.out)
  clear hr
  have z256 : (0 : Nat) < 256 := by decide
  go_enter Tryz.func10, Tryz.ntmps10
  go_upto_region 4 with (first | (exact absurd (hh.symm.trans (by assumption : s.r.ht = true)) Bool.noConfusion) | refine b17 ?_ | (refine a32 ?_; clear tg3; intro w' g3 HM'; clear HM; have HM := HM'; clear HM') | (refine b0 ?_; (first | (clear tg1 HM; intro w' g1 HM) | (clear tg2 HM; intro w' g2 HM) | (clear tg3 HM; intro w' g3 HM) | (clear HM; intro w' g' HM))))
  have H := Zb (Ex.made (l := _ :: _ :: l) HM.out HG.out HX.out HR.out)
  clear HM HG HX
  go_upto_region 7 with (first | refine a33 ?_ | (refine a2 ?_; clear H; intro w' H) | fail)
  rw [show (((s.ahead s.r.px).setPX 0).setDL false) = s.begun from rfl, hs0.out] at H
  go_upto_region 9 with (first | (go_at_call 17; (with_reducible refine (Ka _ s1 ho hs1 H).mono ?_); clear H; rintro e w' ⟨rfl, bo, H⟩) | fail)
  go_upto_region 27 with (first | refine a1 ?_ | (go_at_call 20; (with_reducible refine (Ug _ _ t bo ht _).mono ?_); rintro e w' ⟨rfl, hb⟩; replace H := Zb (H.out.call hb); clear hb) | fail)
  go_upto_if 83 with (first | (go_at_call 21; (with_reducible refine (Uf t [43, 100] _ lt (by decide) (by decide) hd' _).mono ?_); rintro e w' ⟨rfl, hb⟩; replace H := Zb (H.out.call hb); clear hb))
  go_upto_region 30 with fail
  exact k68
theorem Ui (hh : s.r.ht = false) (s0 : Cs) (hs0 : Hid (s.begun = s0)) (o : Nat) (s1 : Cs) (ho : Hid (s0.nextV = o)) (hs1 : Hid (s0.fetch = s1)) (px : Nat) (pgx : Int) (gx : Rg → Nat) (hpq : (px = 221 ∧ pgx = 3 ∧ gx = Rg.ix) ∨ (px = 253 ∧ pgx = 4 ∧ gx = Rg.iy)) (hpx : s.r.px = px) (h1 : ¬ o = 221) (h2 : ¬ o = 253) (h3 : ¬ o = 237) (h4 : ¬ o = 203) (hd : Hid (Jh (Zn pgx o) [43, 100] = true)) (v q : Nat) (s2 : Cs) (hv : Hid (s1.nextV = v)) (hq : Hid (wMove (gx s1.r) v = q)) (hs2 : Hid (s1.next.setWZ q = s2)) (t : Tx) (ht : Hid (Zn pgx o = t)) (lt : t.length ≤ 24) (B : Bool) (hB : Hid (Jh t [40, 72, 76, 41] = B)) (z : Nat) (hz : Hid (s2.r.h * 256 + s2.r.l = z)) (k : Nat) (c : Int) (s' : Cs) (D : Zg t pgx s2 (cond B z q) true k c s') (hr : s.r.Fits) (h : Hid (Fx W0 w b s.u l (n + k + 2))) :
  CX 10 #[s.r.v, .pointer (some ⟨b, 0, none⟩)] w (.tuple #[(s').r.v, .int .i64 c]) fun w' => Hid (Fx W0 w' b (s').u l n) := by
 rcases hpq with ⟨rfl, rfl, rfl⟩ | ⟨rfl, rfl, rfl⟩
 all_goals
  obtain ⟨hg, X, hX, hO⟩ := h.out
  have HG := Zb hg
  have HX := Zb hX
  have HM := Zb hO
  have HR := Zb hr
  have hbx : ∀ w, (Instr.build 58 #[(0, s.r.v), (1, .pointer (some ⟨b, 0, none⟩))]).run Tryz.prog w = .ok (.agg (xc (s.ahead s.r.px) b 0 false 0).toArray) w := ZZ s.r s.r.px b s.u
  clear h hg hX hO
  have tg1 : Hid True := trivial
  have tg2 : Hid True := trivial
  have tg3 : Hid True := trivial
  have HD := Zb D
  clear D
  have hf1 : s1.r.Fits := by rw [← hs1.out, ← hs0.out]; exact Z5 (Yz HR.out)
  have q8 : q < 65536 := by rw [← hq.out]; exact Zt _ _
  have hf2 : s2.r.Fits := by rw [← hs2.out]; exact { next_fits hf1 with wz := q8 }
  have z8 : z < 65536 := by rw [← hz.out]; exact nmHL.lt _ hf2
  have n221 : ((o : Int) == 221) = false := by rw [beq_eq_false_iff_ne]; omega
  have n253 : ((o : Int) == 253) = false := by rw [beq_eq_false_iff_ne]; omega
  have n237 : ((o : Int) == 237) = false := by rw [beq_eq_false_iff_ne]; omega
  have n203 : ((o : Int) == 203) = false := by rw [beq_eq_false_iff_ne]; omega
  have ixk := idxX
  have iyk := idxY
  have hd' : Hid (Jh t [43, 100] = true) := Zb (by rw [← ht.out]; exact hd.out)
  clear hr
  have z256 : (0 : Nat) < 256 := by decide
  go_enter Tryz.func10, Tryz.ntmps10
  go_upto_region 4 with (first | (exact absurd (hh.symm.trans (by assumption : s.r.ht = true)) Bool.noConfusion) | refine b17 ?_ | (refine a32 ?_; clear tg3; intro w' g3 HM'; clear HM; have HM := HM'; clear HM') | (refine b0 ?_; (first | (clear tg1 HM; intro w' g1 HM) | (clear tg2 HM; intro w' g2 HM) | (clear tg3 HM; intro w' g3 HM) | (clear HM; intro w' g' HM))))
  have H := Zb (Ex.made (l := _ :: _ :: l) HM.out HG.out HX.out HR.out)
  clear HM HG HX
  go_upto_region 7 with (first | refine a33 ?_ | (refine a2 ?_; clear H; intro w' H) | fail)
  rw [show (((s.ahead s.r.px).setPX 0).setDL false) = s.begun from rfl, hs0.out] at H
  go_upto_region 9 with (first | (go_at_call 17; (with_reducible refine (Ka _ s1 ho hs1 H).mono ?_); clear H; rintro e w' ⟨rfl, bo, H⟩) | fail)
  go_upto_region 27 with (first | refine a1 ?_ | (go_at_call 20; (with_reducible refine (Ug _ _ t bo ht _).mono ?_); rintro e w' ⟨rfl, hb⟩; replace H := Zb (H.out.call hb); clear hb) | fail)
  go_upto_if 83 with (first | (go_at_call 21; (with_reducible refine (Uf t [43, 100] _ lt (by decide) (by decide) hd' _).mono ?_); rintro e w' ⟨rfl, hb⟩; replace H := Zb (H.out.call hb); clear hb))
  go_upto_region 30 with (first | refine a1 ?_ | (go_at_call 18; (with_reducible refine (yR nmIX v q s2 hv hq hs2 H).mono ?_); clear H; rintro e w' ⟨rfl, _, H⟩) | (go_at_call 18; (with_reducible refine (yR nmIY v q s2 hv hq hs2 H).mono ?_); clear H; rintro e w' ⟨rfl, _, H⟩) | fail)
  exact k68
section
variable {P : Program} {W0 w : World} {x b tq n : Nat} {s : Cs} {ix : Bool} {pg : Int} {l : Zj} {a : Act} {K : Act → Prop} {dst : Option Tmp} {op : Op} {ty ty0 : TypeId} {pos : String} {aft : Array Edge} {gd : Option (Nat × Bool)} {u v : Value} {p : Operand} {i : Nat}
theorem ZlS (hx : a.eval p = .pointer (some ⟨x, i, none⟩)) (hty : One P ty) (hi : (xc s b tq ix pg)[i]? = some u)
  (h : Oper.quiet P ⟨dst, .move (.const u), ty0, pos, aft, gd⟩ a (fun w' => Ex W0 w' x b s tq ix pg l n) K) : Oper.quiet P ⟨dst, .load ty p, ty0, pos, aft, gd⟩ a (fun w' => Ex W0 w' x b s tq ix pg l n) K := by
 refine YK (fun w hC => ?_) h
 have hc := Ex.cell (Zb hC) i u hi
 unfold execOp
 simp only [hx, Instr.loadAt, Instr.sureAddr, Sem.run_bind, Sem.run_pure, Result.andThen_ok, ZG w x i ty u hc hty]
theorem UV {cl : Call} {f : FuncId} {args args' : Array Value} (hx : ∀ w, (execOp a.eval ⟨dst, .call cl, ty0, pos, aft, gd⟩).run P w = .ok (.enter f args') w) (ha : args' = args)
  (hc : ∀ w', Hid (Ex W0 w' x b s tq ix pg l n) → Calls P f args w' fun e w'' => e = .returned u ∧ Hid (Ex W0 w'' x b s tq ix pg l n))
  (h : Oper.quiet P ⟨dst, .move (.const u), ty0, pos, aft, gd⟩ a (fun w' => Ex W0 w' x b s tq ix pg l n) K) : Oper.quiet P ⟨dst, .call cl, ty0, pos, aft, gd⟩ a (fun w' => Ex W0 w' x b s tq ix pg l n) K := by
 obtain ⟨v, hv, hk⟩ := h
 refine ⟨v, fun w hC => ?_, hk⟩
 have h1 := hv w hC
 unfold Oper.quietAt at h1 ⊢
 rw [BigFrame.run_move (.const u) rfl] at h1
 obtain ⟨-, rfl⟩ := h1
 rw [hx w, ha]
 exact ⟨rfl, (hc w (Zb hC)).mono fun _ _ ⟨he, hb⟩ => ⟨he, hb.out⟩⟩
theorem ZdF {f : FuncId} {args : Array Value} {w' : World} (H : Hid (Ex W0 w' x b s tq ix pg l n)) (hc : Calls P f args w' fun e w'' => e = .returned u ∧ Below w'.heap.size w' w'') : Calls P f args w' fun e w'' => e = .returned u ∧ Hid (Ex W0 w'' x b s tq ix pg l n) :=
 hc.mono fun _ _ ⟨he, hb⟩ => ⟨he, Zb (H.out.call hb)⟩
end
theorem vl {P : Program} {lst : Zj} {l : List Oper} {R : Exit → Act → World → Prop} {id : Nat} {a : Act} (k : Nat) (H : Hid (Ex W0 w x b s tq ix pg lst n)) (hm : P.follows .mixedOrders = true)
  (hB : Region.lexB .any (l.take k).toArray = true) (hT : Uy l k = true)
  (h : wpQuiet P (l.take k).toArray (fun w' => Ex W0 w' x b s tq ix pg lst n) (fun a' => ∀ w', Hid (Ex W0 w' x b s tq ix pg lst n) → wpList P l.toArray R (l.drop k) a' w') (l.take k) a) : (Code.region id l.toArray true).wp P R a w :=
 YI (C := fun w' => Ex W0 w' x b s tq ix pg lst n) k hm hB hT H.out.drew h
def nm8 (k : Nat) : Tx := ([[76, 68, 68], [76, 68, 68, 82], [67, 80, 68], [67, 80, 68, 82], [73, 78, 68], [73, 78, 68, 82], [79, 85, 84, 68], [79, 84, 68, 82]] : List Tx).getD k []
def strs8 : List Value := (List.range 8).map fun k => .string ⟨(nm8 k).toArray⟩
theorem ZlT (w : World) : (Instr.buildSlice 80 8 #[(0, .string ⟨#[76, 68, 68]⟩), (1, .string ⟨#[76, 68, 68, 82]⟩), (2, .string ⟨#[67, 80, 68]⟩), (3, .string ⟨#[67, 80, 68, 82]⟩), (4, .string ⟨#[73, 78, 68]⟩), (5, .string ⟨#[73, 78, 68, 82]⟩), (6, .string ⟨#[79, 85, 84, 68]⟩), (7, .string ⟨#[79, 84, 68, 82]⟩)]).run Tryz.prog w = .ok (.slice (some ⟨w.heap.size, 0, none⟩) 8 8) (w.alloc (.cells strs8.toArray 9)) := by kernel_rfl
theorem nm8_cell : ∀ k, k < 8 → strs8[k]? = some (.string ⟨(nm8 k).toArray⟩)
 | 0, _ => rfl | 1, _ => rfl | 2, _ => rfl | 3, _ => rfl | 4, _ => rfl | 5, _ => rfl | 6, _ => rfl | 7, _ => rfl
 | k + 8, h => absurd h (by omega)
def byM (m : Tx) : Nat → Int
 | 0 => 1
 | k + 1 => cond (nm8 k == m) (-1) (byM m k)
structure MT (m : Tx) (y : Int) (ag C L I : Bool) : Prop where
 way : byM m 8 = y
 y1 : -1 ≤ y
 y2 : y ≤ 1
 y3 : y = 1 ∨ y = -1
 len : ∃ i, m.length = i + 1 ∧ 2 ≤ m.length ∧ m.length ≤ 4 ∧ (((m.getD i 0).toNat : Int) == 82) = ag
 cp : (m.take 2 == [67, 80]) = C
 ld : (m.take 2 == [76, 68]) = L
 fst : (((m.getD 0 0).toNat : Int) == 73) = I
theorem zp (p : Nat) (y : Int) (q : Nat) (hp : p < 65536) (hy : y = 1 ∨ y = -1) (hq : ((p : Int) + y) % 65536 = (q : Int)) : ∃ u : Int, ((p : Int) + y).tmod 65536 = u ∧ (u + 65536).tmod 65536 = (q : Int) ∧ -65536 < u ∧ u < 65536 := by
 rcases hy with rfl | rfl
 ·refine ⟨(q : Int), ?_, ?_, by omega, by omega⟩
  ·rw [Int.tmod_eq_emod_of_nonneg (by omega)]; omega
  ·rw [Int.tmod_eq_emod_of_nonneg (by omega)]; omega
 ·exact yS p q hp (by unfold dn1; omega)
section
variable {P : Program} {ops : Array Oper} {rest : List Oper} {o : Oper} {a : Act} {w : World} {Q : Exit → Act → World → Prop} {t : TypeId} {x y z : Operand} {m r : Tx} {k : Nat} {kd : IntKind} {v : Int}
theorem ZlU (ht : P.underlying t = some .string) (ho : o.op = .index t x y) (hx : a.eval x = .string ⟨m.toArray⟩) (hy : a.eval y = .int kd (k : Int)) (hk : k < m.length) (hv : ((m.getD k 0).toNat : Int) = v)
  (hw : Region.wanted o (yielded ops a.tmps) = true) (h : wpList P ops Q rest (a.put o.dst (.int .u8 v)) w) : wpList P ops Q (o :: rest) a w := by
 subst hv; exact J6 ht ho hx hy hk hw h
theorem Kg (ht : P.underlying t = some .string) (ho : o.op = .index t x y) (hx : a.eval x = .string ⟨m.toArray⟩) {I : Int} (hy : a.eval y = .int kd I) (hI : I = (k : Int)) (hk : k < m.length) (hv : ((m.getD k 0).toNat : Int) = v)
  (hw : Region.wanted o (yielded ops a.tmps) = true) (h : wpList P ops Q rest (a.put o.dst (.int .u8 v)) w) : wpList P ops Q (o :: rest) a w := by
 subst hI; exact ZlU ht ho hx hy hk hv hw h
theorem UW (ht : P.underlying t = some .string) (hgd : o.guard = none) (ho : o.op = .call { callee := .builtin .len, args := #[x], argTypes := #[t] }) (hx : a.eval x = .string ⟨m.toArray⟩) (hv : (m.length : Int) = v)
  (h : wpList P ops Q rest (a.put o.dst (.int .i64 v)) w) : wpList P ops Q (o :: rest) a w := by
 subst hv
 refine wpList_plain hgd fun K hK => ?_
 have hs : (⟨m.toArray⟩ : ByteArray).size = m.length := by simp [ByteArray.size]
 have hrun := run_len_string (P := P) w t o.type ⟨m.toArray⟩ ht
 rw [hs] at hrun
 unfold Oper.wp
 simp [execOp, ho, resolve, invoke, builtin, hx, hrun, Result.andThen]
 exact hK _ _ h
theorem Ve (ht : P.underlying t = some .string) (ho : o.op = .slice t x none (some z) none) (hx : a.eval x = .string ⟨m.toArray⟩) (hz : a.eval z = .int kd (k : Int)) (hk : k ≤ m.length) (hr : m.take k = r)
  (hw : Region.wanted o (yielded ops a.tmps) = true) (h : wpList P ops Q rest (a.put o.dst (.string ⟨r.toArray⟩)) w) : wpList P ops Q (o :: rest) a w := by
 subst hr
 refine Zp hw fun K hK => ?_
 have e : (⟨m.toArray⟩ : ByteArray).extract 0 k = ⟨(m.take k).toArray⟩ := by
  apply ByteArray.ext
  simp [List.extract_eq_take_drop]
 have hs : (⟨m.toArray⟩ : ByteArray).size = m.length := by simp [ByteArray.size]
 unfold Oper.wp execOp
 simp only [ho, hx, hz, Option.map_some, Option.map_none, Sem.run_bind, run_sliceAt_string _ _ _ _ _ _ ht, run_slice_string_h _ t _ ht kd (k : Int) (by omega) (by rw [hs]; omega), Int.toNat_natCast, e, Sem.run_pure, Result.andThen_ok]
 exact hK _ _ h
end
end
end Go.Proofs.YtgdeeiimkhjfiaaGreatDoor
