import Derived.Test.YtljjgakfnajifaaGreatDoorZNdRef3
import Derived.Test.YtljjgakfnajifaaGreatDoorZNdRef7n
import Derived.Test.YtljjgakfnajifaaGreatDoorZNdRef7l
import Derived.Test.YtljjgakfnajifaaGreatDoorZNdRef7g
namespace Go.Proofs.YtljjgakfnajifaaGreatDoor
theorem pat_all : (List.range 7).all (fun p => (List.range 256).all (fun n => cPat (p : Int) n == rPat (p : Int) n)) = true := by decide +kernel
end Go.Proofs.YtljjgakfnajifaaGreatDoor
set_option linter.unusedSimpArgs false
set_option linter.unusedVariables false
namespace Go.Proofs.YtljjgakfnajifaaGreatDoor
open Go.RowKit
theorem pat_eq (p : Int) (n : Nat) (hn : n < 256) : cPat p n = rPat p n := by
  by_cases h : p < 0 ∨ 6 < p
  · have e : cPat p n = [] := by
      rw [cPat, if_neg (by omega), if_neg (by omega), if_neg (by omega), if_neg (by omega), if_neg (by omega), if_neg (by omega), if_neg (by omega)]
    have e2 : rPat p n = [] := by
      rw [rPat, if_neg (by omega), if_neg (by omega), if_neg (by omega), if_neg (by omega), if_neg (by omega), if_neg (by omega)]
    rw [e, e2]
  · obtain ⟨k, hk⟩ := Int.eq_ofNat_of_zero_le (show 0 ≤ p by omega)
    subst hk
    have h1 := List.all_eq_true.1 pat_all k (List.mem_range.2 (by omega))
    exact eq_of_beq (List.all_eq_true.1 h1 n (List.mem_range.2 hn))
theorem page_lim (a d : Nat) : -1 ≤ (rPage a d).1 ∧ (rPage a d).1 ≤ 6 ∧ (rPage a d).2 ≤ 3 ∧ ((rPage a d).1 < 5 → (rPage a d).2 ≤ 1) := by
  have hb : ∀ q, 3 ≤ q → q ≤ 4 → -1 ≤ (rBehind d q).1 ∧ (rBehind d q).1 ≤ 6 ∧ (rBehind d q).2 ≤ 3 ∧ ((rBehind d q).1 < 5 → (rBehind d q).2 ≤ 1) := by
    intro q h1 h2
    unfold rBehind
    split
    · exact ⟨by decide, by decide, by decide, by decide⟩
    · split
      · exact ⟨by show -1 ≤ q + 2; omega, by show q + 2 ≤ 6; omega, Nat.le_refl 3, fun h => absurd h (by show ¬ q + 2 < 5; omega)⟩
      · exact ⟨by show -1 ≤ q; omega, by show q ≤ 6; omega, (by decide : 1 ≤ 3), fun _ => Nat.le_refl 1⟩
  unfold rPage
  split
  · decide
  · split
    · decide
    · split
      · exact hb 3 (by decide) (by decide)
      · split
        · exact hb 4 (by decide) (by decide)
        · decide
set_option maxRecDepth 100000 in
set_option maxHeartbeats 6400000 in
theorem rname_neg (v : Value) (bs : List Nat) (hl : bs.length < 10000) (p : Int) (A b : Nat) (hp1 : (rPage (bs.getD 0 0) (bs.getD 1 0)).1 = p) (hp2 : (rPage (bs.getD 0 0) (bs.getD 1 0)).2 = A) (p0 : p < 0) (hb : bs.getD 0 0 = b) (b8 : b < 256) (w : World) (hR0 : Rd w v (by8 bs)) : Calls Tryz.prog 22 #[v] w fun e w' => e = .returned (.tuple #[.string ⟨(rPlain b).toArray⟩, .int .i64 1]) ∧ Below w.heap.size w w' := by
  have hR : Hid (Rd w v (by8 bs)) := hR0
  have HPG : Hid (∀ w, Rd w v (by8 bs) → Calls Tryz.prog 38 #[v] w fun e w' => e = .returned (.tuple #[.int .i64 p, .int .i64 (A : Int)]) ∧ Below w.heap.size w w') := by
    intro w h
    have := page_at v bs hl w h
    rw [hp1, hp2] at this
    exact this
  have HPL := Lib.hid (plain_call b b8 (rPlain b) rfl)
  have HC0 : Hid (∀ cur : List Value, (∀ i < bs.length + 6, cur[i]? = some (.int .u8 ((bs.getD i 0 : Nat) : Int))) → cur[0]? = some (.int .u8 (b : Int))) := by
    intro cur h
    have := h 0 (by omega)
    rw [hb] at this
    exact this
  obtain ⟨i0, hi, hz0, hz1, hz2⟩ := u8_parts
  have HI := Lib.hid hi
  have HZ0 := Lib.hid hz0
  have HZ1 := Lib.hid hz1
  have HZ2 := Lib.hid hz2
  clear hi hz0 hz1 hz2 hR0 hp1 hp2 hb
  have HM := Lib.hid (Own.start w)
  have tg1 : Hid True := trivial
  go_enter Tryz.func22, Tryz.ntmps22
  go_wp2_with (first
    | ((with_reducible apply own_made (cs := []) (e := 5) (n := 0) HM); exact rfl; exact madeB0; (focus (go_simp; done)); exact rfl; clear tg1; intro w' g1 HM'; clear HM; have HM := HM'; clear HM'; have HR : Hid (RowIs 5 [(g1, 5, [])] (.slice (some ⟨g1, 0, none⟩) 0 0) []) := RowIs.made)
    | (refine own_app Tryz.underlying30 HI.out HZ0.out HZ1.out HZ2.out rfl (by decide) HM HR (List.Sublist.refl _) rfl rfl rfl (Rd.own hR HM) (by8_one bs) (by rw [by8_length]; simp only [List.length_nil]; omega) rfl ?_; intro v1 w1 R1 HR' HM'; clear HM HR; have HM := HM'; have HR := HR'; clear HM' HR')
    | ((with_reducible apply own_made (cs := by8 (List.replicate 6 0)) (e := 5) (n := 6) HM); exact rfl; exact madeB6; (focus (go_simp; done)); exact rfl; intro w' g2 HM'; clear HM; have HM := HM'; clear HM')
    | (refine own_app Tryz.underlying30 HI.out HZ0.out HZ1.out HZ2.out rfl (by decide) HM HR (List.sublist_cons_self _ _) rfl rfl rfl (Rd.ofWhole (HM.out.at_ .z) rfl) (by8_one _) (by simp only [List.length_append, by8_length, List.length_nil, List.length_replicate]; omega) rfl ?_; intro v2 w2 R2 HR' HM'; clear HM HR; obtain ⟨g, cap, cur, rfl, rfl, hcur⟩ := row_cur 6 (by decide) HR'.out; have HC := Lib.hid hcur; clear hcur HR'; have HM := HM'; clear HM')
    | ((with_reducible apply own_get HM); exact rfl; exact rfl; (with_reducible exact oneU8); (first | with_reducible exact .z | with_reducible exact .s .z); (first | exact HC0.out cur HC.out); exact rfl)
    | (go_at_call 38; (first | (with_reducible refine (HPG.out _ (Rd.own hR HM)).mono ?_)); rintro e w' ⟨rfl, hb⟩; replace HM := Lib.hid (HM.out.call hb); clear hb)
    | (go_at_call 39; (first | (with_reducible refine (HPL.out _).mono ?_)); rintro e w' ⟨rfl, hb⟩; replace HM := Lib.hid (HM.out.call hb); clear hb))
  go_ret2
  exact ⟨rfl, Own.fin HM⟩
theorem rname_at (v : Value) (bs : List Nat) (hl : bs.length < 10000) (hb8 : ∀ i, bs.getD i 0 < 256) (w : World) (hR : Rd w v (by8 bs)) : Calls Tryz.prog 22 #[v] w fun e w' => e = .returned (.tuple #[.string ⟨(rName bs).1.toArray⟩, .int .i64 ((rName bs).2 : Int)]) ∧ Below w.heap.size w w' := by
  obtain ⟨p, hp1⟩ : ∃ p, (rPage (bs.getD 0 0) (bs.getD 1 0)).1 = p := ⟨_, rfl⟩
  obtain ⟨A, hp2⟩ : ∃ A, (rPage (bs.getD 0 0) (bs.getD 1 0)).2 = A := ⟨_, rfl⟩
  have lim := page_lim (bs.getD 0 0) (bs.getD 1 0)
  rw [hp1, hp2] at lim
  rw [rName, hp1, hp2]
  by_cases p0 : p < 0
  · rw [if_pos p0]
    exact rname_neg v bs hl p A (bs.getD 0 0) hp1 hp2 p0 rfl (hb8 0) w hR
  · rw [if_neg p0]
    have b8 := hb8 A
    have ls : (rPat p (bs.getD A 0)).length ≤ 24 := by rw [← pat_eq p _ b8]; exact len_pat p _ b8
    have l1 : (rReplace (rPat p (bs.getD A 0)) [43, 100] (sgn (bs.getD 2 0))).length ≤ 400 := by
      have := len_repl [43, 100] (sgn (bs.getD 2 0)) 4 (by decide) (len_sgn _) (by decide) _ (rPat p (bs.getD A 0)) (Nat.le_refl _)
      omega
    rw [rTail]
    cases hc0 : rHas (rPat p (bs.getD A 0)) [43, 100] with
    | false =>
      rw [if_neg (by decide), rEnd]
      cases hc1 : rHas (rPat p (bs.getD A 0)) [110, 110] with
      | true => rw [if_pos rfl]; exact rname_n_nn v bs hl hb8 p A hp1 hp2 (by omega) (by omega) (by omega) _ rfl _ rfl ls hc0 hc1 _ rfl _ rfl _ rfl _ rfl _ rfl w hR
      | false =>
        rw [if_neg (by decide)]
        cases hc2 : rHas (rPat p (bs.getD A 0)) [110] with
        | true => rw [if_pos rfl]; exact rname_n_n v bs hl hb8 p A hp1 hp2 (by omega) (by omega) (by omega) _ rfl _ rfl ls hc0 hc1 hc2 _ rfl _ rfl _ rfl w hR
        | false =>
          rw [if_neg (by decide)]
          cases hc3 : rHas (rPat p (bs.getD A 0)) [101] with
          | true => rw [if_pos rfl]; exact rname_n_e v bs hl hb8 p A hp1 hp2 (by omega) (by omega) (by omega) _ rfl _ rfl ls hc0 hc1 hc2 hc3 _ rfl _ rfl _ rfl w hR
          | false => rw [if_neg (by decide)]; exact rname_n_0 v bs hl hb8 p A hp1 hp2 (by omega) (by omega) (by omega) _ rfl _ rfl ls hc0 hc1 hc2 hc3 w hR
    | true =>
      rw [if_pos rfl]
      by_cases p5 : p < 5
      · rw [if_pos p5, rEnd]
        cases hc1 : rHas (rReplace (rPat p (bs.getD A 0)) [43, 100] (sgn (bs.getD 2 0))) [110, 110] with
        | true => rw [if_pos rfl]; exact rname_l_nn v bs hl hb8 p A hp1 hp2 (by omega) (by omega) (by omega) p5 (lim.2.2.2 p5) _ rfl _ rfl ls hc0 _ rfl _ rfl _ rfl l1 hc1 _ rfl _ rfl _ rfl _ rfl _ rfl w hR
        | false =>
          rw [if_neg (by decide)]
          cases hc2 : rHas (rReplace (rPat p (bs.getD A 0)) [43, 100] (sgn (bs.getD 2 0))) [110] with
          | true => rw [if_pos rfl]; exact rname_l_n v bs hl hb8 p A hp1 hp2 (by omega) (by omega) (by omega) p5 (lim.2.2.2 p5) _ rfl _ rfl ls hc0 _ rfl _ rfl _ rfl l1 hc1 hc2 _ rfl _ rfl _ rfl w hR
          | false =>
            rw [if_neg (by decide)]
            cases hc3 : rHas (rReplace (rPat p (bs.getD A 0)) [43, 100] (sgn (bs.getD 2 0))) [101] with
            | true => rw [if_pos rfl]; exact rname_l_e v bs hl hb8 p A hp1 hp2 (by omega) (by omega) (by omega) p5 (lim.2.2.2 p5) _ rfl _ rfl ls hc0 _ rfl _ rfl _ rfl l1 hc1 hc2 hc3 _ rfl _ rfl _ rfl w hR
            | false => rw [if_neg (by decide)]; exact rname_l_0 v bs hl hb8 p A hp1 hp2 (by omega) (by omega) (by omega) p5 (lim.2.2.2 p5) _ rfl _ rfl ls hc0 _ rfl _ rfl _ rfl l1 hc1 hc2 hc3 w hR
      · rw [if_neg p5, rEnd]
        cases hc1 : rHas (rReplace (rPat p (bs.getD A 0)) [43, 100] (sgn (bs.getD 2 0))) [110, 110] with
        | true => rw [if_pos rfl]; exact rname_g_nn v bs hl hb8 p A hp1 hp2 (by omega) (by omega) (by omega) (by omega) _ rfl _ rfl ls hc0 _ rfl _ rfl _ rfl l1 hc1 _ rfl _ rfl _ rfl _ rfl _ rfl w hR
        | false =>
          rw [if_neg (by decide)]
          cases hc2 : rHas (rReplace (rPat p (bs.getD A 0)) [43, 100] (sgn (bs.getD 2 0))) [110] with
          | true => rw [if_pos rfl]; exact rname_g_n v bs hl hb8 p A hp1 hp2 (by omega) (by omega) (by omega) (by omega) _ rfl _ rfl ls hc0 _ rfl _ rfl _ rfl l1 hc1 hc2 _ rfl _ rfl _ rfl w hR
          | false =>
            rw [if_neg (by decide)]
            cases hc3 : rHas (rReplace (rPat p (bs.getD A 0)) [43, 100] (sgn (bs.getD 2 0))) [101] with
            | true => rw [if_pos rfl]; exact rname_g_e v bs hl hb8 p A hp1 hp2 (by omega) (by omega) (by omega) (by omega) _ rfl _ rfl ls hc0 _ rfl _ rfl _ rfl l1 hc1 hc2 hc3 _ rfl _ rfl _ rfl w hR
            | false => rw [if_neg (by decide)]; exact rname_g_0 v bs hl hb8 p A hp1 hp2 (by omega) (by omega) (by omega) (by omega) _ rfl _ rfl ls hc0 _ rfl _ rfl _ rfl l1 hc1 hc2 hc3 w hR
end Go.Proofs.YtljjgakfnajifaaGreatDoor
