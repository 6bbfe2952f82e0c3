import Derived.Test.YtljjgakfnajifaaGreatDoorZNdRef7n
set_option linter.unusedSimpArgs false
set_option linter.unusedVariables false
namespace Go.Proofs.YtljjgakfnajifaaGreatDoor
open Go.RowKit
set_option maxRecDepth 100000 in
set_option maxHeartbeats 6400000 in
theorem rname_l_nn (v : Value) (bs : List Nat) (hl : bs.length < 10000) (hb8 : ∀ i, bs.getD i 0 < 256) (p : Int) (A : Nat) (hp1 : (rPage (bs.getD 0 0) (bs.getD 1 0)).1 = p) (hp2 : (rPage (bs.getD 0 0) (bs.getD 1 0)).2 = A) (p0 : 0 ≤ p) (p6 : p ≤ 6) (A3 : A ≤ 3) (p5 : p < 5) (A1 : A ≤ 1) (b : Nat) (hb : bs.getD A 0 = b) (s : Tx) (hs : rPat p b = s) (ls : s.length ≤ 24) (hc0 : rHas s [43, 100] = true) (x : Nat) (hx : bs.getD 2 0 = x) (t : Tx) (ht : sgn x = t) (s1 : Tx) (hs1 : rReplace s [43, 100] t = s1) (ls1 : s1.length ≤ 400) (hc1 : rHas s1 [110, 110] = true) (y : Nat) (hy : bs.getD (A + 2) 0 = y) (z : Nat) (hz : bs.getD (A + 2 + 1) 0 = z) (ty : Tx) (hty : hex2 y = ty) (tz : Tx) (htz : hex2 z = tz) (r : Tx) (hr : rReplace s1 [110, 110] ([36] ++ (tz ++ ty)) = r) (w : World) (hR0 : Rd w v (by8 bs)) : Calls Tryz.prog 22 #[v] w fun e w' => e = .returned (.tuple #[.string ⟨r.toArray⟩, .int .i64 ((A + 2 + 2 : Nat) : Int)]) ∧ Below w.heap.size w w' := by
  have hR : Hid (Rd w v (by8 bs)) := hR0
  have HPG : Hid (∀ w, Rd w v (by8 bs) → Calls Tryz.prog 38 #[v] w fun e w' => e = .returned (.tuple #[.int .i64 p, .int .i64 (A : Int)]) ∧ Below w.heap.size w w') := by
    intro w h
    have := page_at v bs hl w h
    rw [hp1, hp2] at this
    exact this
  have b8 : b < 256 := by rw [← hb]; exact hb8 A
  have HPT : Hid (∀ w, Calls Tryz.prog 31 #[.int .i64 p, .int .u8 (b : Int)] w fun e w' => e = .returned (.string ⟨s.toArray⟩) ∧ Below w.heap.size w w') := by
    intro w
    have := rpat_at p b b8 w
    rw [hs] at this
    exact this
  have HCA : Hid (∀ cur : List Value, (∀ i < bs.length + 6, cur[i]? = some (.int .u8 ((bs.getD i 0 : Nat) : Int))) → cur[A]? = some (.int .u8 (b : Int))) := by
    intro cur h
    have := h A (by omega)
    rw [hb] at this
    exact this
  have HH0 : Hid (∀ w, Calls Tryz.prog 23 #[.string ⟨s.toArray⟩, .string ⟨#[43, 100]⟩] w fun e w' => e = .returned (.bool true) ∧ Below w.heap.size w w') := has_call s [43, 100] true hc0 (by omega) (by decide) (by decide)
  have x8 : x < 256 := by rw [← hx]; exact hb8 2
  have lt : t.length ≤ 4 := by rw [← ht]; exact len_sgn x
  have HC2 : Hid (∀ cur : List Value, (∀ i < bs.length + 6, cur[i]? = some (.int .u8 ((bs.getD i 0 : Nat) : Int))) → cur[2]? = some (.int .u8 (x : Int))) := by
    intro cur h
    have := h 2 (by omega)
    rw [hx] at this
    exact this
  have HSG : Hid (∀ w, Calls Tryz.prog 41 #[.int .u8 (x : Int)] w fun e w' => e = .returned (.string ⟨t.toArray⟩) ∧ Below w.heap.size w w') := by
    intro w
    have := rsigned_at x x8 w
    rw [ht] at this
    exact this
  have HRs1 : Hid (∀ w, Calls Tryz.prog 40 #[.string ⟨s.toArray⟩, .string ⟨#[43, 100]⟩, .string ⟨(t).toArray⟩] w fun e w' => e = .returned (.string ⟨s1.toArray⟩) ∧ Below w.heap.size w w') := by
    intro w
    have := repl_at s [43, 100] (t) (by omega) (by decide) (by decide) (by omega) w
    rw [hs1] at this
    exact this
  have HH1 : Hid (∀ w, Calls Tryz.prog 23 #[.string ⟨s1.toArray⟩, .string ⟨#[110, 110]⟩] w fun e w' => e = .returned (.bool true) ∧ Below w.heap.size w w') := has_call s1 [110, 110] true hc1 (by omega) (by decide) (by decide)
  obtain ⟨B, hB⟩ : ∃ B, B = A + 1 := ⟨_, rfl⟩
  have e1 : (A : Int) + 1 = (B : Int) := by omega
  obtain ⟨D, hD⟩ : ∃ D, D = A + 2 := ⟨_, rfl⟩
  have e2 : (B : Int) + 1 = (D : Int) := by omega
  obtain ⟨E, hE⟩ : ∃ E, E = D + 1 := ⟨_, rfl⟩
  obtain ⟨F, hF⟩ : ∃ F, F = D + 2 := ⟨_, rfl⟩
  have e3 : (D : Int) + 1 = (E : Int) := by omega
  have e4 : (D : Int) + 2 = (F : Int) := by omega
  have y8 : y < 256 := by rw [← hy]; exact hb8 _
  rw [← hD] at hy
  have HCD : Hid (∀ cur : List Value, (∀ i < bs.length + 6, cur[i]? = some (.int .u8 ((bs.getD i 0 : Nat) : Int))) → cur[D]? = some (.int .u8 (y : Int))) := by
    intro cur h
    have := h D (by omega)
    rw [hy] at this
    exact this
  have z8 : z < 256 := by rw [← hz]; exact hb8 _
  rw [← hD, ← hE] at hz
  have HCE : Hid (∀ cur : List Value, (∀ i < bs.length + 6, cur[i]? = some (.int .u8 ((bs.getD i 0 : Nat) : Int))) → cur[E]? = some (.int .u8 (z : Int))) := by
    intro cur h
    have := h E (by omega)
    rw [hz] at this
    exact this
  have lty : ty.length = 2 := by rw [← hty]; rfl
  have ltz : tz.length = 2 := by rw [← htz]; rfl
  have HXY : Hid (∀ w, Calls Tryz.prog 42 #[.int .u8 (y : Int)] w fun e w' => e = .returned (.string ⟨ty.toArray⟩) ∧ Below w.heap.size w w') := by
    intro w
    have := rhex_at y y8 w
    rw [hty] at this
    exact this
  have HXZ : Hid (∀ w, Calls Tryz.prog 42 #[.int .u8 (z : Int)] w fun e w' => e = .returned (.string ⟨tz.toArray⟩) ∧ Below w.heap.size w w') := by
    intro w
    have := rhex_at z z8 w
    rw [htz] at this
    exact this
  have HRr : Hid (∀ w, Calls Tryz.prog 40 #[.string ⟨s1.toArray⟩, .string ⟨#[110, 110]⟩, .string ⟨([36] ++ (tz ++ ty)).toArray⟩] w fun e w' => e = .returned (.string ⟨r.toArray⟩) ∧ Below w.heap.size w w') := by
    intro w
    have := repl_at s1 [110, 110] ([36] ++ (tz ++ ty)) (by omega) (by decide) (by decide) (by simp only [List.length_append, List.length_cons, List.length_nil]; omega) w
    rw [hr] at this
    exact this
  have HE : Hid ((Value.int .i64 ((A + 2 + 2 : Nat) : Int)) = .int .i64 (F : Int)) := by show _ = _; rw [show A + 2 + 2 = F by omega]
  rw [HE.out]
  have a6 : (A : Int) < (bs.length : Int) + 6 := by omega
  have d6 : (D : Int) < (bs.length : Int) + 6 := by omega
  have f6 : (E : Int) < (bs.length : Int) + 6 := by omega
  have A4 : (A : Int) ≤ 3 := by omega
  have B4 : (B : Int) ≤ 4 := by omega
  have D4 : (D : Int) ≤ 4 := by omega
  obtain ⟨i0, hi, hz0, hz1, hz2⟩ := u8_parts
  have HI := Lib.hid hi
  have HZ0 := Lib.hid hz0
  have HZ1 := Lib.hid hz1
  have HZ2 := Lib.hid hz2
  clear hi hz0 hz1 hz2 hR0 hb8 hp1 hp2 hb hs hc0 hc1 HE hB hE hF hD hx ht hs1 hy hz hty htz hr
  have HM := Lib.hid (Own.start w)
  have tg1 : Hid True := trivial
  go_enter Tryz.func22, Tryz.ntmps22
  go_wp2_with (first
    | ((with_reducible apply own_made (cs := []) (e := 5) (n := 0) HM); exact rfl; exact madeB0; (focus (go_simp; done)); exact rfl; clear tg1; intro w' g1 HM'; clear HM; have HM := HM'; clear HM'; have HR : Hid (RowIs 5 [(g1, 5, [])] (.slice (some ⟨g1, 0, none⟩) 0 0) []) := RowIs.made)
    | (refine own_app Tryz.underlying30 HI.out HZ0.out HZ1.out HZ2.out rfl (by decide) HM HR (List.Sublist.refl _) rfl rfl rfl (Rd.own hR HM) (by8_one bs) (by rw [by8_length]; simp only [List.length_nil]; omega) rfl ?_; intro v1 w1 R1 HR' HM'; clear HM HR; have HM := HM'; have HR := HR'; clear HM' HR')
    | ((with_reducible apply own_made (cs := by8 (List.replicate 6 0)) (e := 5) (n := 6) HM); exact rfl; exact madeB6; (focus (go_simp; done)); exact rfl; intro w' g2 HM'; clear HM; have HM := HM'; clear HM')
    | (refine own_app Tryz.underlying30 HI.out HZ0.out HZ1.out HZ2.out rfl (by decide) HM HR (List.sublist_cons_self _ _) rfl rfl rfl (Rd.ofWhole (HM.out.at_ .z) rfl) (by8_one _) (by simp only [List.length_append, by8_length, List.length_nil, List.length_replicate]; omega) rfl ?_; intro v2 w2 R2 HR' HM'; clear HM HR; obtain ⟨g, cap, cur, rfl, rfl, hcur⟩ := row_cur 6 (by decide) HR'.out; have HC := Lib.hid hcur; clear hcur HR'; have HM := HM'; clear HM')
    | ((with_reducible apply own_get HM); exact rfl; exact rfl; (with_reducible exact oneU8); (first | with_reducible exact .z | with_reducible exact .s .z); (first | exact HCA.out cur HC.out | exact HC2.out cur HC.out | exact HCD.out cur HC.out | exact HCE.out cur HC.out); exact rfl)
    | (go_at_call 38; (first | (with_reducible refine (HPG.out _ (Rd.own hR HM)).mono ?_)); rintro e w' ⟨rfl, hb⟩; replace HM := Lib.hid (HM.out.call hb); clear hb)
    | (go_at_call 31; (first | (with_reducible refine (HPT.out _).mono ?_)); rintro e w' ⟨rfl, hb⟩; replace HM := Lib.hid (HM.out.call hb); clear hb)
    | (go_at_call 23; (first | (with_reducible refine (HH0.out _).mono ?_) | (with_reducible refine (HH1.out _).mono ?_)); rintro e w' ⟨rfl, hb⟩; replace HM := Lib.hid (HM.out.call hb); clear hb)
    | (go_at_call 40; (first | (with_reducible refine (HRs1.out _).mono ?_) | (with_reducible refine (HRr.out _).mono ?_) | (refine (HRr.out _).mono ?_)); rintro e w' ⟨rfl, hb⟩; replace HM := Lib.hid (HM.out.call hb); clear hb)
    | (go_at_call 41; (first | (with_reducible refine (HSG.out _).mono ?_)); rintro e w' ⟨rfl, hb⟩; replace HM := Lib.hid (HM.out.call hb); clear hb))
  (refine own_region HM (by kernel_rfl) (by kernel_rfl) ?_; (try simp only [Act.put, List.setIfInBounds_toArray, List.set_cons_zero, List.set_cons_succ]); repeat ((fail_if_success (with_reducible refine wpQuiet_nil ?_)); first | go_big_quiet_skip | (go_big_quiet_want; first | ((with_reducible apply quiet_get); exact rfl; (with_reducible exact oneU8); exact sS; (first | (with_reducible exact HCD.out cur HC.out) | (with_reducible exact HCE.out cur HC.out)); go_big_quiet_op; go_big_quiet_on) | ((with_reducible apply quiet_cat); exact rfl; exact rfl; (first | assumption | decide | ((try simp only [List.length_append, List.length_cons, List.length_nil]); omega)); go_big_quiet_op; go_big_quiet_on) | ((with_reducible apply quiet_cell); exact rfl; (first | (with_reducible exact oneU8)); exact sS; exact dS; go_big_quiet_op; go_big_quiet_on) | ((with_reducible apply quiet_call); exact fun w => rfl; (focus (go_simp; all_goals with_reducible rfl)); (intro wq HQ; first | with_reducible exact HXY.out _ | with_reducible exact HXZ.out _ | exact HRr.out _); go_big_quiet_op; go_big_quiet_on) | (go_big_quiet_op; go_big_quiet_on) | (go_big_quiet_op; refine ⟨_, fun _ _ => rfl, ?_⟩; go_big_quiet_on))))
  refine wpQuiet_nil ?_
  intro w' HM'
  clear HM; have HM := HM'; clear HM'
  go_wp2_with fail
  go_ret2
  exact ⟨rfl, Own.fin HM⟩
set_option maxRecDepth 100000 in
set_option maxHeartbeats 6400000 in
theorem rname_l_n (v : Value) (bs : List Nat) (hl : bs.length < 10000) (hb8 : ∀ i, bs.getD i 0 < 256) (p : Int) (A : Nat) (hp1 : (rPage (bs.getD 0 0) (bs.getD 1 0)).1 = p) (hp2 : (rPage (bs.getD 0 0) (bs.getD 1 0)).2 = A) (p0 : 0 ≤ p) (p6 : p ≤ 6) (A3 : A ≤ 3) (p5 : p < 5) (A1 : A ≤ 1) (b : Nat) (hb : bs.getD A 0 = b) (s : Tx) (hs : rPat p b = s) (ls : s.length ≤ 24) (hc0 : rHas s [43, 100] = true) (x : Nat) (hx : bs.getD 2 0 = x) (t : Tx) (ht : sgn x = t) (s1 : Tx) (hs1 : rReplace s [43, 100] t = s1) (ls1 : s1.length ≤ 400) (hc1 : rHas s1 [110, 110] = false) (hc2 : rHas s1 [110] = true) (y : Nat) (hy : bs.getD (A + 2) 0 = y) (ty : Tx) (hty : hex2 y = ty) (r : Tx) (hr : rReplace s1 [110] ([36] ++ ty) = r) (w : World) (hR0 : Rd w v (by8 bs)) : Calls Tryz.prog 22 #[v] w fun e w' => e = .returned (.tuple #[.string ⟨r.toArray⟩, .int .i64 ((A + 2 + 1 : Nat) : Int)]) ∧ Below w.heap.size w w' := by
  have hR : Hid (Rd w v (by8 bs)) := hR0
  have HPG : Hid (∀ w, Rd w v (by8 bs) → Calls Tryz.prog 38 #[v] w fun e w' => e = .returned (.tuple #[.int .i64 p, .int .i64 (A : Int)]) ∧ Below w.heap.size w w') := by
    intro w h
    have := page_at v bs hl w h
    rw [hp1, hp2] at this
    exact this
  have b8 : b < 256 := by rw [← hb]; exact hb8 A
  have HPT : Hid (∀ w, Calls Tryz.prog 31 #[.int .i64 p, .int .u8 (b : Int)] w fun e w' => e = .returned (.string ⟨s.toArray⟩) ∧ Below w.heap.size w w') := by
    intro w
    have := rpat_at p b b8 w
    rw [hs] at this
    exact this
  have HCA : Hid (∀ cur : List Value, (∀ i < bs.length + 6, cur[i]? = some (.int .u8 ((bs.getD i 0 : Nat) : Int))) → cur[A]? = some (.int .u8 (b : Int))) := by
    intro cur h
    have := h A (by omega)
    rw [hb] at this
    exact this
  have HH0 : Hid (∀ w, Calls Tryz.prog 23 #[.string ⟨s.toArray⟩, .string ⟨#[43, 100]⟩] w fun e w' => e = .returned (.bool true) ∧ Below w.heap.size w w') := has_call s [43, 100] true hc0 (by omega) (by decide) (by decide)
  have x8 : x < 256 := by rw [← hx]; exact hb8 2
  have lt : t.length ≤ 4 := by rw [← ht]; exact len_sgn x
  have HC2 : Hid (∀ cur : List Value, (∀ i < bs.length + 6, cur[i]? = some (.int .u8 ((bs.getD i 0 : Nat) : Int))) → cur[2]? = some (.int .u8 (x : Int))) := by
    intro cur h
    have := h 2 (by omega)
    rw [hx] at this
    exact this
  have HSG : Hid (∀ w, Calls Tryz.prog 41 #[.int .u8 (x : Int)] w fun e w' => e = .returned (.string ⟨t.toArray⟩) ∧ Below w.heap.size w w') := by
    intro w
    have := rsigned_at x x8 w
    rw [ht] at this
    exact this
  have HRs1 : Hid (∀ w, Calls Tryz.prog 40 #[.string ⟨s.toArray⟩, .string ⟨#[43, 100]⟩, .string ⟨(t).toArray⟩] w fun e w' => e = .returned (.string ⟨s1.toArray⟩) ∧ Below w.heap.size w w') := by
    intro w
    have := repl_at s [43, 100] (t) (by omega) (by decide) (by decide) (by omega) w
    rw [hs1] at this
    exact this
  have HH1 : Hid (∀ w, Calls Tryz.prog 23 #[.string ⟨s1.toArray⟩, .string ⟨#[110, 110]⟩] w fun e w' => e = .returned (.bool false) ∧ Below w.heap.size w w') := has_call s1 [110, 110] false hc1 (by omega) (by decide) (by decide)
  have HH2 : Hid (∀ w, Calls Tryz.prog 23 #[.string ⟨s1.toArray⟩, .string ⟨#[110]⟩] w fun e w' => e = .returned (.bool true) ∧ Below w.heap.size w w') := has_call s1 [110] true hc2 (by omega) (by decide) (by decide)
  obtain ⟨B, hB⟩ : ∃ B, B = A + 1 := ⟨_, rfl⟩
  have e1 : (A : Int) + 1 = (B : Int) := by omega
  obtain ⟨D, hD⟩ : ∃ D, D = A + 2 := ⟨_, rfl⟩
  have e2 : (B : Int) + 1 = (D : Int) := by omega
  obtain ⟨E, hE⟩ : ∃ E, E = D + 1 := ⟨_, rfl⟩
  obtain ⟨F, hF⟩ : ∃ F, F = D + 2 := ⟨_, rfl⟩
  have e3 : (D : Int) + 1 = (E : Int) := by omega
  have e4 : (D : Int) + 2 = (F : Int) := by omega
  have y8 : y < 256 := by rw [← hy]; exact hb8 _
  rw [← hD] at hy
  have HCD : Hid (∀ cur : List Value, (∀ i < bs.length + 6, cur[i]? = some (.int .u8 ((bs.getD i 0 : Nat) : Int))) → cur[D]? = some (.int .u8 (y : Int))) := by
    intro cur h
    have := h D (by omega)
    rw [hy] at this
    exact this
  have lty : ty.length = 2 := by rw [← hty]; rfl
  have HXY : Hid (∀ w, Calls Tryz.prog 42 #[.int .u8 (y : Int)] w fun e w' => e = .returned (.string ⟨ty.toArray⟩) ∧ Below w.heap.size w w') := by
    intro w
    have := rhex_at y y8 w
    rw [hty] at this
    exact this
  have HRr : Hid (∀ w, Calls Tryz.prog 40 #[.string ⟨s1.toArray⟩, .string ⟨#[110]⟩, .string ⟨([36] ++ ty).toArray⟩] w fun e w' => e = .returned (.string ⟨r.toArray⟩) ∧ Below w.heap.size w w') := by
    intro w
    have := repl_at s1 [110] ([36] ++ ty) (by omega) (by decide) (by decide) (by simp only [List.length_append, List.length_cons, List.length_nil]; omega) w
    rw [hr] at this
    exact this
  have HE : Hid ((Value.int .i64 ((A + 2 + 1 : Nat) : Int)) = .int .i64 (E : Int)) := by show _ = _; rw [show A + 2 + 1 = E by omega]
  rw [HE.out]
  have a6 : (A : Int) < (bs.length : Int) + 6 := by omega
  have d6 : (D : Int) < (bs.length : Int) + 6 := by omega
  have f6 : (E : Int) < (bs.length : Int) + 6 := by omega
  have A4 : (A : Int) ≤ 3 := by omega
  have B4 : (B : Int) ≤ 4 := by omega
  have D4 : (D : Int) ≤ 4 := by omega
  obtain ⟨i0, hi, hz0, hz1, hz2⟩ := u8_parts
  have HI := Lib.hid hi
  have HZ0 := Lib.hid hz0
  have HZ1 := Lib.hid hz1
  have HZ2 := Lib.hid hz2
  clear hi hz0 hz1 hz2 hR0 hb8 hp1 hp2 hb hs hc0 hc1 HE hB hE hF hD hx ht hs1 hc2 hy hty hr
  have HM := Lib.hid (Own.start w)
  have tg1 : Hid True := trivial
  go_enter Tryz.func22, Tryz.ntmps22
  go_wp2_with (first
    | ((with_reducible apply own_made (cs := []) (e := 5) (n := 0) HM); exact rfl; exact madeB0; (focus (go_simp; done)); exact rfl; clear tg1; intro w' g1 HM'; clear HM; have HM := HM'; clear HM'; have HR : Hid (RowIs 5 [(g1, 5, [])] (.slice (some ⟨g1, 0, none⟩) 0 0) []) := RowIs.made)
    | (refine own_app Tryz.underlying30 HI.out HZ0.out HZ1.out HZ2.out rfl (by decide) HM HR (List.Sublist.refl _) rfl rfl rfl (Rd.own hR HM) (by8_one bs) (by rw [by8_length]; simp only [List.length_nil]; omega) rfl ?_; intro v1 w1 R1 HR' HM'; clear HM HR; have HM := HM'; have HR := HR'; clear HM' HR')
    | ((with_reducible apply own_made (cs := by8 (List.replicate 6 0)) (e := 5) (n := 6) HM); exact rfl; exact madeB6; (focus (go_simp; done)); exact rfl; intro w' g2 HM'; clear HM; have HM := HM'; clear HM')
    | (refine own_app Tryz.underlying30 HI.out HZ0.out HZ1.out HZ2.out rfl (by decide) HM HR (List.sublist_cons_self _ _) rfl rfl rfl (Rd.ofWhole (HM.out.at_ .z) rfl) (by8_one _) (by simp only [List.length_append, by8_length, List.length_nil, List.length_replicate]; omega) rfl ?_; intro v2 w2 R2 HR' HM'; clear HM HR; obtain ⟨g, cap, cur, rfl, rfl, hcur⟩ := row_cur 6 (by decide) HR'.out; have HC := Lib.hid hcur; clear hcur HR'; have HM := HM'; clear HM')
    | ((with_reducible apply own_get HM); exact rfl; exact rfl; (with_reducible exact oneU8); (first | with_reducible exact .z | with_reducible exact .s .z); (first | exact HCA.out cur HC.out | exact HC2.out cur HC.out | exact HCD.out cur HC.out); exact rfl)
    | (go_at_call 38; (first | (with_reducible refine (HPG.out _ (Rd.own hR HM)).mono ?_)); rintro e w' ⟨rfl, hb⟩; replace HM := Lib.hid (HM.out.call hb); clear hb)
    | (go_at_call 31; (first | (with_reducible refine (HPT.out _).mono ?_)); rintro e w' ⟨rfl, hb⟩; replace HM := Lib.hid (HM.out.call hb); clear hb)
    | (go_at_call 23; (first | (with_reducible refine (HH0.out _).mono ?_) | (with_reducible refine (HH1.out _).mono ?_) | (with_reducible refine (HH2.out _).mono ?_)); rintro e w' ⟨rfl, hb⟩; replace HM := Lib.hid (HM.out.call hb); clear hb)
    | (go_at_call 40; (first | (with_reducible refine (HRs1.out _).mono ?_) | (with_reducible refine (HRr.out _).mono ?_) | (refine (HRr.out _).mono ?_)); rintro e w' ⟨rfl, hb⟩; replace HM := Lib.hid (HM.out.call hb); clear hb)
    | (go_at_call 41; (first | (with_reducible refine (HSG.out _).mono ?_)); rintro e w' ⟨rfl, hb⟩; replace HM := Lib.hid (HM.out.call hb); clear hb)
    | (go_at_call 42; (first | (with_reducible refine (HXY.out _).mono ?_)); rintro e w' ⟨rfl, hb⟩; replace HM := Lib.hid (HM.out.call hb); clear hb)
    | ((with_reducible apply own_cat); exact rfl; exact rfl; exact rfl; (first | assumption | decide | ((try simp only [List.length_append, List.length_cons, List.length_nil]); omega)); exact rfl))
  go_ret2
  exact ⟨rfl, Own.fin HM⟩
set_option maxRecDepth 100000 in
set_option maxHeartbeats 6400000 in
theorem rname_l_e (v : Value) (bs : List Nat) (hl : bs.length < 10000) (hb8 : ∀ i, bs.getD i 0 < 256) (p : Int) (A : Nat) (hp1 : (rPage (bs.getD 0 0) (bs.getD 1 0)).1 = p) (hp2 : (rPage (bs.getD 0 0) (bs.getD 1 0)).2 = A) (p0 : 0 ≤ p) (p6 : p ≤ 6) (A3 : A ≤ 3) (p5 : p < 5) (A1 : A ≤ 1) (b : Nat) (hb : bs.getD A 0 = b) (s : Tx) (hs : rPat p b = s) (ls : s.length ≤ 24) (hc0 : rHas s [43, 100] = true) (x : Nat) (hx : bs.getD 2 0 = x) (t : Tx) (ht : sgn x = t) (s1 : Tx) (hs1 : rReplace s [43, 100] t = s1) (ls1 : s1.length ≤ 400) (hc1 : rHas s1 [110, 110] = false) (hc2 : rHas s1 [110] = false) (hc3 : rHas s1 [101] = true) (y : Nat) (hy : bs.getD (A + 2) 0 = y) (ty : Tx) (hty : sgn y = ty) (r : Tx) (hr : rReplace s1 [101] ty = r) (w : World) (hR0 : Rd w v (by8 bs)) : Calls Tryz.prog 22 #[v] w fun e w' => e = .returned (.tuple #[.string ⟨r.toArray⟩, .int .i64 ((A + 2 + 1 : Nat) : Int)]) ∧ Below w.heap.size w w' := by
  have hR : Hid (Rd w v (by8 bs)) := hR0
  have HPG : Hid (∀ w, Rd w v (by8 bs) → Calls Tryz.prog 38 #[v] w fun e w' => e = .returned (.tuple #[.int .i64 p, .int .i64 (A : Int)]) ∧ Below w.heap.size w w') := by
    intro w h
    have := page_at v bs hl w h
    rw [hp1, hp2] at this
    exact this
  have b8 : b < 256 := by rw [← hb]; exact hb8 A
  have HPT : Hid (∀ w, Calls Tryz.prog 31 #[.int .i64 p, .int .u8 (b : Int)] w fun e w' => e = .returned (.string ⟨s.toArray⟩) ∧ Below w.heap.size w w') := by
    intro w
    have := rpat_at p b b8 w
    rw [hs] at this
    exact this
  have HCA : Hid (∀ cur : List Value, (∀ i < bs.length + 6, cur[i]? = some (.int .u8 ((bs.getD i 0 : Nat) : Int))) → cur[A]? = some (.int .u8 (b : Int))) := by
    intro cur h
    have := h A (by omega)
    rw [hb] at this
    exact this
  have HH0 : Hid (∀ w, Calls Tryz.prog 23 #[.string ⟨s.toArray⟩, .string ⟨#[43, 100]⟩] w fun e w' => e = .returned (.bool true) ∧ Below w.heap.size w w') := has_call s [43, 100] true hc0 (by omega) (by decide) (by decide)
  have x8 : x < 256 := by rw [← hx]; exact hb8 2
  have lt : t.length ≤ 4 := by rw [← ht]; exact len_sgn x
  have HC2 : Hid (∀ cur : List Value, (∀ i < bs.length + 6, cur[i]? = some (.int .u8 ((bs.getD i 0 : Nat) : Int))) → cur[2]? = some (.int .u8 (x : Int))) := by
    intro cur h
    have := h 2 (by omega)
    rw [hx] at this
    exact this
  have HSG : Hid (∀ w, Calls Tryz.prog 41 #[.int .u8 (x : Int)] w fun e w' => e = .returned (.string ⟨t.toArray⟩) ∧ Below w.heap.size w w') := by
    intro w
    have := rsigned_at x x8 w
    rw [ht] at this
    exact this
  have HRs1 : Hid (∀ w, Calls Tryz.prog 40 #[.string ⟨s.toArray⟩, .string ⟨#[43, 100]⟩, .string ⟨(t).toArray⟩] w fun e w' => e = .returned (.string ⟨s1.toArray⟩) ∧ Below w.heap.size w w') := by
    intro w
    have := repl_at s [43, 100] (t) (by omega) (by decide) (by decide) (by omega) w
    rw [hs1] at this
    exact this
  have HH1 : Hid (∀ w, Calls Tryz.prog 23 #[.string ⟨s1.toArray⟩, .string ⟨#[110, 110]⟩] w fun e w' => e = .returned (.bool false) ∧ Below w.heap.size w w') := has_call s1 [110, 110] false hc1 (by omega) (by decide) (by decide)
  have HH2 : Hid (∀ w, Calls Tryz.prog 23 #[.string ⟨s1.toArray⟩, .string ⟨#[110]⟩] w fun e w' => e = .returned (.bool false) ∧ Below w.heap.size w w') := has_call s1 [110] false hc2 (by omega) (by decide) (by decide)
  have HH3 : Hid (∀ w, Calls Tryz.prog 23 #[.string ⟨s1.toArray⟩, .string ⟨#[101]⟩] w fun e w' => e = .returned (.bool true) ∧ Below w.heap.size w w') := has_call s1 [101] true hc3 (by omega) (by decide) (by decide)
  obtain ⟨B, hB⟩ : ∃ B, B = A + 1 := ⟨_, rfl⟩
  have e1 : (A : Int) + 1 = (B : Int) := by omega
  obtain ⟨D, hD⟩ : ∃ D, D = A + 2 := ⟨_, rfl⟩
  have e2 : (B : Int) + 1 = (D : Int) := by omega
  obtain ⟨E, hE⟩ : ∃ E, E = D + 1 := ⟨_, rfl⟩
  obtain ⟨F, hF⟩ : ∃ F, F = D + 2 := ⟨_, rfl⟩
  have e3 : (D : Int) + 1 = (E : Int) := by omega
  have e4 : (D : Int) + 2 = (F : Int) := by omega
  have y8 : y < 256 := by rw [← hy]; exact hb8 _
  rw [← hD] at hy
  have HCD : Hid (∀ cur : List Value, (∀ i < bs.length + 6, cur[i]? = some (.int .u8 ((bs.getD i 0 : Nat) : Int))) → cur[D]? = some (.int .u8 (y : Int))) := by
    intro cur h
    have := h D (by omega)
    rw [hy] at this
    exact this
  have lty : ty.length ≤ 4 := by rw [← hty]; exact len_sgn y
  have HSY : Hid (∀ w, Calls Tryz.prog 41 #[.int .u8 (y : Int)] w fun e w' => e = .returned (.string ⟨ty.toArray⟩) ∧ Below w.heap.size w w') := by
    intro w
    have := rsigned_at y y8 w
    rw [hty] at this
    exact this
  have HRr : Hid (∀ w, Calls Tryz.prog 40 #[.string ⟨s1.toArray⟩, .string ⟨#[101]⟩, .string ⟨(ty).toArray⟩] w fun e w' => e = .returned (.string ⟨r.toArray⟩) ∧ Below w.heap.size w w') := by
    intro w
    have := repl_at s1 [101] (ty) (by omega) (by decide) (by decide) (by omega) w
    rw [hr] at this
    exact this
  have HE : Hid ((Value.int .i64 ((A + 2 + 1 : Nat) : Int)) = .int .i64 (E : Int)) := by show _ = _; rw [show A + 2 + 1 = E by omega]
  rw [HE.out]
  have a6 : (A : Int) < (bs.length : Int) + 6 := by omega
  have d6 : (D : Int) < (bs.length : Int) + 6 := by omega
  have f6 : (E : Int) < (bs.length : Int) + 6 := by omega
  have A4 : (A : Int) ≤ 3 := by omega
  have B4 : (B : Int) ≤ 4 := by omega
  have D4 : (D : Int) ≤ 4 := by omega
  obtain ⟨i0, hi, hz0, hz1, hz2⟩ := u8_parts
  have HI := Lib.hid hi
  have HZ0 := Lib.hid hz0
  have HZ1 := Lib.hid hz1
  have HZ2 := Lib.hid hz2
  clear hi hz0 hz1 hz2 hR0 hb8 hp1 hp2 hb hs hc0 hc1 HE hB hE hF hD hx ht hs1 hc2 hc3 hy hty hr
  have HM := Lib.hid (Own.start w)
  have tg1 : Hid True := trivial
  go_enter Tryz.func22, Tryz.ntmps22
  go_wp2_with (first
    | ((with_reducible apply own_made (cs := []) (e := 5) (n := 0) HM); exact rfl; exact madeB0; (focus (go_simp; done)); exact rfl; clear tg1; intro w' g1 HM'; clear HM; have HM := HM'; clear HM'; have HR : Hid (RowIs 5 [(g1, 5, [])] (.slice (some ⟨g1, 0, none⟩) 0 0) []) := RowIs.made)
    | (refine own_app Tryz.underlying30 HI.out HZ0.out HZ1.out HZ2.out rfl (by decide) HM HR (List.Sublist.refl _) rfl rfl rfl (Rd.own hR HM) (by8_one bs) (by rw [by8_length]; simp only [List.length_nil]; omega) rfl ?_; intro v1 w1 R1 HR' HM'; clear HM HR; have HM := HM'; have HR := HR'; clear HM' HR')
    | ((with_reducible apply own_made (cs := by8 (List.replicate 6 0)) (e := 5) (n := 6) HM); exact rfl; exact madeB6; (focus (go_simp; done)); exact rfl; intro w' g2 HM'; clear HM; have HM := HM'; clear HM')
    | (refine own_app Tryz.underlying30 HI.out HZ0.out HZ1.out HZ2.out rfl (by decide) HM HR (List.sublist_cons_self _ _) rfl rfl rfl (Rd.ofWhole (HM.out.at_ .z) rfl) (by8_one _) (by simp only [List.length_append, by8_length, List.length_nil, List.length_replicate]; omega) rfl ?_; intro v2 w2 R2 HR' HM'; clear HM HR; obtain ⟨g, cap, cur, rfl, rfl, hcur⟩ := row_cur 6 (by decide) HR'.out; have HC := Lib.hid hcur; clear hcur HR'; have HM := HM'; clear HM')
    | ((with_reducible apply own_get HM); exact rfl; exact rfl; (with_reducible exact oneU8); (first | with_reducible exact .z | with_reducible exact .s .z); (first | exact HCA.out cur HC.out | exact HC2.out cur HC.out | exact HCD.out cur HC.out); exact rfl)
    | (go_at_call 38; (first | (with_reducible refine (HPG.out _ (Rd.own hR HM)).mono ?_)); rintro e w' ⟨rfl, hb⟩; replace HM := Lib.hid (HM.out.call hb); clear hb)
    | (go_at_call 31; (first | (with_reducible refine (HPT.out _).mono ?_)); rintro e w' ⟨rfl, hb⟩; replace HM := Lib.hid (HM.out.call hb); clear hb)
    | (go_at_call 23; (first | (with_reducible refine (HH0.out _).mono ?_) | (with_reducible refine (HH1.out _).mono ?_) | (with_reducible refine (HH2.out _).mono ?_) | (with_reducible refine (HH3.out _).mono ?_)); rintro e w' ⟨rfl, hb⟩; replace HM := Lib.hid (HM.out.call hb); clear hb)
    | (go_at_call 40; (first | (with_reducible refine (HRs1.out _).mono ?_) | (with_reducible refine (HRr.out _).mono ?_) | (refine (HRr.out _).mono ?_)); rintro e w' ⟨rfl, hb⟩; replace HM := Lib.hid (HM.out.call hb); clear hb)
    | (go_at_call 41; (first | (with_reducible refine (HSG.out _).mono ?_) | (with_reducible refine (HSY.out _).mono ?_)); rintro e w' ⟨rfl, hb⟩; replace HM := Lib.hid (HM.out.call hb); clear hb))
  go_ret2
  exact ⟨rfl, Own.fin HM⟩
set_option maxRecDepth 100000 in
set_option maxHeartbeats 6400000 in
theorem rname_l_0 (v : Value) (bs : List Nat) (hl : bs.length < 10000) (hb8 : ∀ i, bs.getD i 0 < 256) (p : Int) (A : Nat) (hp1 : (rPage (bs.getD 0 0) (bs.getD 1 0)).1 = p) (hp2 : (rPage (bs.getD 0 0) (bs.getD 1 0)).2 = A) (p0 : 0 ≤ p) (p6 : p ≤ 6) (A3 : A ≤ 3) (p5 : p < 5) (A1 : A ≤ 1) (b : Nat) (hb : bs.getD A 0 = b) (s : Tx) (hs : rPat p b = s) (ls : s.length ≤ 24) (hc0 : rHas s [43, 100] = true) (x : Nat) (hx : bs.getD 2 0 = x) (t : Tx) (ht : sgn x = t) (s1 : Tx) (hs1 : rReplace s [43, 100] t = s1) (ls1 : s1.length ≤ 400) (hc1 : rHas s1 [110, 110] = false) (hc2 : rHas s1 [110] = false) (hc3 : rHas s1 [101] = false) (w : World) (hR0 : Rd w v (by8 bs)) : Calls Tryz.prog 22 #[v] w fun e w' => e = .returned (.tuple #[.string ⟨s1.toArray⟩, .int .i64 ((A + 2 : Nat) : Int)]) ∧ Below w.heap.size w w' := by
  have hR : Hid (Rd w v (by8 bs)) := hR0
  have HPG : Hid (∀ w, Rd w v (by8 bs) → Calls Tryz.prog 38 #[v] w fun e w' => e = .returned (.tuple #[.int .i64 p, .int .i64 (A : Int)]) ∧ Below w.heap.size w w') := by
    intro w h
    have := page_at v bs hl w h
    rw [hp1, hp2] at this
    exact this
  have b8 : b < 256 := by rw [← hb]; exact hb8 A
  have HPT : Hid (∀ w, Calls Tryz.prog 31 #[.int .i64 p, .int .u8 (b : Int)] w fun e w' => e = .returned (.string ⟨s.toArray⟩) ∧ Below w.heap.size w w') := by
    intro w
    have := rpat_at p b b8 w
    rw [hs] at this
    exact this
  have HCA : Hid (∀ cur : List Value, (∀ i < bs.length + 6, cur[i]? = some (.int .u8 ((bs.getD i 0 : Nat) : Int))) → cur[A]? = some (.int .u8 (b : Int))) := by
    intro cur h
    have := h A (by omega)
    rw [hb] at this
    exact this
  have HH0 : Hid (∀ w, Calls Tryz.prog 23 #[.string ⟨s.toArray⟩, .string ⟨#[43, 100]⟩] w fun e w' => e = .returned (.bool true) ∧ Below w.heap.size w w') := has_call s [43, 100] true hc0 (by omega) (by decide) (by decide)
  have x8 : x < 256 := by rw [← hx]; exact hb8 2
  have lt : t.length ≤ 4 := by rw [← ht]; exact len_sgn x
  have HC2 : Hid (∀ cur : List Value, (∀ i < bs.length + 6, cur[i]? = some (.int .u8 ((bs.getD i 0 : Nat) : Int))) → cur[2]? = some (.int .u8 (x : Int))) := by
    intro cur h
    have := h 2 (by omega)
    rw [hx] at this
    exact this
  have HSG : Hid (∀ w, Calls Tryz.prog 41 #[.int .u8 (x : Int)] w fun e w' => e = .returned (.string ⟨t.toArray⟩) ∧ Below w.heap.size w w') := by
    intro w
    have := rsigned_at x x8 w
    rw [ht] at this
    exact this
  have HRs1 : Hid (∀ w, Calls Tryz.prog 40 #[.string ⟨s.toArray⟩, .string ⟨#[43, 100]⟩, .string ⟨(t).toArray⟩] w fun e w' => e = .returned (.string ⟨s1.toArray⟩) ∧ Below w.heap.size w w') := by
    intro w
    have := repl_at s [43, 100] (t) (by omega) (by decide) (by decide) (by omega) w
    rw [hs1] at this
    exact this
  have HH1 : Hid (∀ w, Calls Tryz.prog 23 #[.string ⟨s1.toArray⟩, .string ⟨#[110, 110]⟩] w fun e w' => e = .returned (.bool false) ∧ Below w.heap.size w w') := has_call s1 [110, 110] false hc1 (by omega) (by decide) (by decide)
  have HH2 : Hid (∀ w, Calls Tryz.prog 23 #[.string ⟨s1.toArray⟩, .string ⟨#[110]⟩] w fun e w' => e = .returned (.bool false) ∧ Below w.heap.size w w') := has_call s1 [110] false hc2 (by omega) (by decide) (by decide)
  have HH3 : Hid (∀ w, Calls Tryz.prog 23 #[.string ⟨s1.toArray⟩, .string ⟨#[101]⟩] w fun e w' => e = .returned (.bool false) ∧ Below w.heap.size w w') := has_call s1 [101] false hc3 (by omega) (by decide) (by decide)
  obtain ⟨B, hB⟩ : ∃ B, B = A + 1 := ⟨_, rfl⟩
  have e1 : (A : Int) + 1 = (B : Int) := by omega
  obtain ⟨D, hD⟩ : ∃ D, D = A + 2 := ⟨_, rfl⟩
  have e2 : (B : Int) + 1 = (D : Int) := by omega
  obtain ⟨E, hE⟩ : ∃ E, E = D + 1 := ⟨_, rfl⟩
  obtain ⟨F, hF⟩ : ∃ F, F = D + 2 := ⟨_, rfl⟩
  have e3 : (D : Int) + 1 = (E : Int) := by omega
  have e4 : (D : Int) + 2 = (F : Int) := by omega
  have HE : Hid ((Value.int .i64 ((A + 2 : Nat) : Int)) = .int .i64 (D : Int)) := by show _ = _; rw [show A + 2 = D by omega]
  rw [HE.out]
  have a6 : (A : Int) < (bs.length : Int) + 6 := by omega
  have d6 : (D : Int) < (bs.length : Int) + 6 := by omega
  have f6 : (E : Int) < (bs.length : Int) + 6 := by omega
  have A4 : (A : Int) ≤ 3 := by omega
  have B4 : (B : Int) ≤ 4 := by omega
  have D4 : (D : Int) ≤ 4 := by omega
  obtain ⟨i0, hi, hz0, hz1, hz2⟩ := u8_parts
  have HI := Lib.hid hi
  have HZ0 := Lib.hid hz0
  have HZ1 := Lib.hid hz1
  have HZ2 := Lib.hid hz2
  clear hi hz0 hz1 hz2 hR0 hb8 hp1 hp2 hb hs hc0 hc1 HE hB hE hF hD hx ht hs1 hc2 hc3
  have HM := Lib.hid (Own.start w)
  have tg1 : Hid True := trivial
  go_enter Tryz.func22, Tryz.ntmps22
  go_wp2_with (first
    | ((with_reducible apply own_made (cs := []) (e := 5) (n := 0) HM); exact rfl; exact madeB0; (focus (go_simp; done)); exact rfl; clear tg1; intro w' g1 HM'; clear HM; have HM := HM'; clear HM'; have HR : Hid (RowIs 5 [(g1, 5, [])] (.slice (some ⟨g1, 0, none⟩) 0 0) []) := RowIs.made)
    | (refine own_app Tryz.underlying30 HI.out HZ0.out HZ1.out HZ2.out rfl (by decide) HM HR (List.Sublist.refl _) rfl rfl rfl (Rd.own hR HM) (by8_one bs) (by rw [by8_length]; simp only [List.length_nil]; omega) rfl ?_; intro v1 w1 R1 HR' HM'; clear HM HR; have HM := HM'; have HR := HR'; clear HM' HR')
    | ((with_reducible apply own_made (cs := by8 (List.replicate 6 0)) (e := 5) (n := 6) HM); exact rfl; exact madeB6; (focus (go_simp; done)); exact rfl; intro w' g2 HM'; clear HM; have HM := HM'; clear HM')
    | (refine own_app Tryz.underlying30 HI.out HZ0.out HZ1.out HZ2.out rfl (by decide) HM HR (List.sublist_cons_self _ _) rfl rfl rfl (Rd.ofWhole (HM.out.at_ .z) rfl) (by8_one _) (by simp only [List.length_append, by8_length, List.length_nil, List.length_replicate]; omega) rfl ?_; intro v2 w2 R2 HR' HM'; clear HM HR; obtain ⟨g, cap, cur, rfl, rfl, hcur⟩ := row_cur 6 (by decide) HR'.out; have HC := Lib.hid hcur; clear hcur HR'; have HM := HM'; clear HM')
    | ((with_reducible apply own_get HM); exact rfl; exact rfl; (with_reducible exact oneU8); (first | with_reducible exact .z | with_reducible exact .s .z); (first | exact HCA.out cur HC.out | exact HC2.out cur HC.out); exact rfl)
    | (go_at_call 38; (first | (with_reducible refine (HPG.out _ (Rd.own hR HM)).mono ?_)); rintro e w' ⟨rfl, hb⟩; replace HM := Lib.hid (HM.out.call hb); clear hb)
    | (go_at_call 31; (first | (with_reducible refine (HPT.out _).mono ?_)); rintro e w' ⟨rfl, hb⟩; replace HM := Lib.hid (HM.out.call hb); clear hb)
    | (go_at_call 23; (first | (with_reducible refine (HH0.out _).mono ?_) | (with_reducible refine (HH1.out _).mono ?_) | (with_reducible refine (HH2.out _).mono ?_) | (with_reducible refine (HH3.out _).mono ?_)); rintro e w' ⟨rfl, hb⟩; replace HM := Lib.hid (HM.out.call hb); clear hb)
    | (go_at_call 40; (first | (with_reducible refine (HRs1.out _).mono ?_) | (refine (HRs1.out _).mono ?_)); rintro e w' ⟨rfl, hb⟩; replace HM := Lib.hid (HM.out.call hb); clear hb)
    | (go_at_call 41; (first | (with_reducible refine (HSG.out _).mono ?_)); rintro e w' ⟨rfl, hb⟩; replace HM := Lib.hid (HM.out.call hb); clear hb))
  go_ret2
  exact ⟨rfl, Own.fin HM⟩
end Go.Proofs.YtljjgakfnajifaaGreatDoor
