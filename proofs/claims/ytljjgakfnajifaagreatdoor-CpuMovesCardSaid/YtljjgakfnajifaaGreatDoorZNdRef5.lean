import Derived.Test.YtljjgakfnajifaaGreatDoorZNdRef3
set_option linter.unusedSimpArgs false
set_option linter.unusedVariables false
namespace Go.Proofs.YtljjgakfnajifaaGreatDoor
open Go.RowKit
def rW (n : Nat) : List Tx := rSplit (rPlain n) 32
def rP (n : Nat) : List Tx := rSplit (sg (rW n) 1) 44
theorem rW_len : ∀ n < 256, (rW n).length ≤ 3 ∧ 1 ≤ (rW n).length ∧ (sg (rW n) 0).length ≤ 16 ∧ (sg (rW n) 1).length ≤ 16 := by decide +kernel
theorem rP_len : ∀ n < 256, (rP n).length ≤ 3 ∧ (∀ j < 4, (sg (rP n) j).length ≤ 16) := by decide +kernel
theorem plain_call (n : Nat) (hn : n < 256) (t : Tx) (ht : rPlain n = t) : ∀ w, Calls Tryz.prog 39 #[.int .u8 (n : Int)] w fun e w' => e = .returned (.string ⟨t.toArray⟩) ∧ Below w.heap.size w w' := by
  subst ht; exact rplain_at n hn
theorem has_call (s part : Tx) (c : Bool) (hc : rHas s part = c) (hs : s.length ≤ 400) (ho : part ≠ []) (hol : part.length ≤ 8) : ∀ w, Calls Tryz.prog 23 #[.string ⟨s.toArray⟩, .string ⟨part.toArray⟩] w fun e w' => e = .returned (.bool c) ∧ Below w.heap.size w w' := by
  subst hc; exact has_at s part hs ho hol
set_option maxRecDepth 100000 in
set_option maxHeartbeats 3200000 in
theorem ind_a (n : Nat) (hn : n < 256) (t b : Tx) (ht : rPlain n = t) (hb : b.length ≤ 2) (lt : t.length ≤ 16) (h1 : (t == [69, 88, 32, 68, 69, 44, 72, 76]) = true) (w : World) : Calls Tryz.prog 57 #[.int .u8 (n : Int), .string ⟨b.toArray⟩] w fun e w' => e = .returned (.string ⟨(t).toArray⟩) ∧ Below w.heap.size w w' := by
  have HP := Lib.hid (plain_call n hn t ht)
  clear ht
  have HM := Lib.hid (Own.start w)
  go_enter Tryz.func57, Tryz.ntmps57
  go_wp2_with (first
    | (go_at_call 39; (with_reducible refine (HP.out _).mono ?_); rintro e w' ⟨rfl, hb⟩; replace HM := Lib.hid (HM.out.call hb); clear hb))
  go_ret
  exact ⟨rfl, Own.fin HM⟩
set_option maxRecDepth 100000 in
set_option maxHeartbeats 3200000 in
theorem ind_b (n : Nat) (hn : n < 256) (t b : Tx) (ht : rPlain n = t) (hb : b.length ≤ 2) (lt : t.length ≤ 16) (h1 : (t == [69, 88, 32, 68, 69, 44, 72, 76]) = false) (h2 : (t == [74, 80, 32, 40, 72, 76, 41]) = true) (w : World) : Calls Tryz.prog 57 #[.int .u8 (n : Int), .string ⟨b.toArray⟩] w fun e w' => e = .returned (.string ⟨([74, 80, 32, 40] ++ (b ++ [41])).toArray⟩) ∧ Below w.heap.size w w' := by
  have HP := Lib.hid (plain_call n hn t ht)
  clear ht
  have HM := Lib.hid (Own.start w)
  go_enter Tryz.func57, Tryz.ntmps57
  go_wp2_with (first
    | (go_at_call 39; (with_reducible refine (HP.out _).mono ?_); rintro e w' ⟨rfl, hb⟩; replace HM := Lib.hid (HM.out.call hb); clear hb)
    | ((with_reducible apply own_cat); exact rfl; exact rfl; exact rfl; (first | assumption | decide | ((try simp only [List.length_append, List.length_cons, List.length_nil]); omega)); exact rfl))
  go_ret
  exact ⟨rfl, Own.fin HM⟩
set_option maxRecDepth 100000 in
set_option maxHeartbeats 3200000 in
theorem ind_c (n : Nat) (hn : n < 256) (t b : Tx) (ht : rPlain n = t) (hb : b.length ≤ 2) (lt : t.length ≤ 16) (h1 : (t == [69, 88, 32, 68, 69, 44, 72, 76]) = false) (h2 : (t == [74, 80, 32, 40, 72, 76, 41]) = false) (h3 : rHas t [40, 72, 76, 41] = true) (w : World) : Calls Tryz.prog 57 #[.int .u8 (n : Int), .string ⟨b.toArray⟩] w fun e w' => e = .returned (.string ⟨(rReplace t [40, 72, 76, 41] ([40] ++ (b ++ [43, 100, 41]))).toArray⟩) ∧ Below w.heap.size w w' := by
  have HP := Lib.hid (plain_call n hn t ht)
  have HH1 := Lib.hid (has_call t [40, 72, 76, 41] true h3 (by omega) (by decide) (by decide))
  have HR : Hid (∀ w, Calls Tryz.prog 40 #[.string ⟨t.toArray⟩, .string ⟨#[40, 72, 76, 41]⟩, .string ⟨([40] ++ (b ++ [43, 100, 41])).toArray⟩] w fun e w' => e = .returned (.string ⟨(rReplace t [40, 72, 76, 41] ([40] ++ (b ++ [43, 100, 41]))).toArray⟩) ∧ Below w.heap.size w w') := repl_at t [40, 72, 76, 41] ([40] ++ (b ++ [43, 100, 41])) (by omega) (by decide) (by decide) (by simp only [List.length_append, List.length_cons, List.length_nil]; omega)
  obtain ⟨z, hz⟩ : ∃ z, z = rReplace t [40, 72, 76, 41] ([40] ++ (b ++ [43, 100, 41])) := ⟨_, rfl⟩
  rw [← hz] at HR
  rw [← hz]
  clear hz
  clear ht
  have HM := Lib.hid (Own.start w)
  go_enter Tryz.func57, Tryz.ntmps57
  go_wp2_with (first
    | (go_at_call 39; (with_reducible refine (HP.out _).mono ?_); rintro e w' ⟨rfl, hb⟩; replace HM := Lib.hid (HM.out.call hb); clear hb)
    | (go_at_call 23; refine (HH1.out _).mono ?_; rintro e w' ⟨rfl, hb⟩; replace HM := Lib.hid (HM.out.call hb); clear hb)
    | ((with_reducible apply own_cat); exact rfl; exact rfl; exact rfl; (first | assumption | decide | ((try simp only [List.length_append, List.length_cons, List.length_nil]); omega)); exact rfl)
    | (go_at_call 40; refine (HR.out _).mono ?_; rintro e w' ⟨rfl, hb⟩; replace HM := Lib.hid (HM.out.call hb); clear hb))
  go_ret
  exact ⟨rfl, Own.fin HM⟩
set_option maxRecDepth 100000 in
set_option maxHeartbeats 3200000 in
theorem ind_d (n : Nat) (hn : n < 256) (t b : Tx) (ht : rPlain n = t) (hb : b.length ≤ 2) (lt : t.length ≤ 16) (h1 : (t == [69, 88, 32, 68, 69, 44, 72, 76]) = false) (h2 : (t == [74, 80, 32, 40, 72, 76, 41]) = false) (h3 : rHas t [40, 72, 76, 41] = false) (h4 : rHas t [72, 76] = true) (w : World) : Calls Tryz.prog 57 #[.int .u8 (n : Int), .string ⟨b.toArray⟩] w fun e w' => e = .returned (.string ⟨(rReplace t [72, 76] b).toArray⟩) ∧ Below w.heap.size w w' := by
  have HP := Lib.hid (plain_call n hn t ht)
  have HH1 := Lib.hid (has_call t [40, 72, 76, 41] false h3 (by omega) (by decide) (by decide))
  have HH2 := Lib.hid (has_call t [72, 76] true h4 (by omega) (by decide) (by decide))
  have HR : Hid (∀ w, Calls Tryz.prog 40 #[.string ⟨t.toArray⟩, .string ⟨#[72, 76]⟩, .string ⟨(b).toArray⟩] w fun e w' => e = .returned (.string ⟨(rReplace t [72, 76] (b)).toArray⟩) ∧ Below w.heap.size w w') := repl_at t [72, 76] (b) (by omega) (by decide) (by decide) (by omega)
  obtain ⟨z, hz⟩ : ∃ z, z = rReplace t [72, 76] (b) := ⟨_, rfl⟩
  rw [← hz] at HR
  rw [← hz]
  clear hz
  clear ht
  have HM := Lib.hid (Own.start w)
  go_enter Tryz.func57, Tryz.ntmps57
  go_wp2_with (first
    | (go_at_call 39; (with_reducible refine (HP.out _).mono ?_); rintro e w' ⟨rfl, hb⟩; replace HM := Lib.hid (HM.out.call hb); clear hb)
    | (go_at_call 23; (first | (with_reducible refine (HH1.out _).mono ?_) | (with_reducible refine (HH2.out _).mono ?_)); rintro e w' ⟨rfl, hb⟩; replace HM := Lib.hid (HM.out.call hb); clear hb)
    | (go_at_call 40; (with_reducible refine (HR.out _).mono ?_); rintro e w' ⟨rfl, hb⟩; replace HM := Lib.hid (HM.out.call hb); clear hb))
  go_ret
  exact ⟨rfl, Own.fin HM⟩
set_option maxRecDepth 100000 in
set_option maxHeartbeats 3200000 in
theorem ind_e (n : Nat) (hn : n < 256) (t b : Tx) (ht : rPlain n = t) (hb : b.length ≤ 2) (lt : t.length ≤ 16) (h1 : (t == [69, 88, 32, 68, 69, 44, 72, 76]) = false) (h2 : (t == [74, 80, 32, 40, 72, 76, 41]) = false) (h3 : rHas t [40, 72, 76, 41] = false) (h4 : rHas t [72, 76] = false) (h5 : (rSplit t 32).length < 2) (w : World) : Calls Tryz.prog 57 #[.int .u8 (n : Int), .string ⟨b.toArray⟩] w fun e w' => e = .returned (.string ⟨(t).toArray⟩) ∧ Below w.heap.size w w' := by
  have HP := Lib.hid (plain_call n hn t ht)
  have HH1 := Lib.hid (has_call t [40, 72, 76, 41] false h3 (by omega) (by decide) (by decide))
  have HH2 := Lib.hid (has_call t [72, 76] false h4 (by omega) (by decide) (by decide))
  have HS : Hid (∀ w, Calls Tryz.prog 74 #[.string ⟨t.toArray⟩, .int .u8 32] w fun e w' => ∃ v, e = .returned v ∧ TextsIn w' v (rSplit t 32) ∧ Below w.heap.size w w') := rsplit_at t 32 32 rfl (by omega)
  obtain ⟨L, hL⟩ : ∃ L, L = rSplit t 32 := ⟨_, rfl⟩
  rw [← hL] at HS
  obtain ⟨N, hN⟩ : ∃ N, N = L.length := ⟨_, rfl⟩
  have n2 : (L.length : Int) < 2 := by rw [← hL] at h5; omega
  clear h5 hN hL
  clear ht
  have HM := Lib.hid (Own.start w)
  go_enter Tryz.func57, Tryz.ntmps57
  go_wp2_with (first
    | (go_at_call 39; (with_reducible refine (HP.out _).mono ?_); rintro e w' ⟨rfl, hb⟩; replace HM := Lib.hid (HM.out.call hb); clear hb)
    | (go_at_call 23; (first | (with_reducible refine (HH1.out _).mono ?_) | (with_reducible refine (HH2.out _).mono ?_)); rintro e w' ⟨rfl, hb⟩; replace HM := Lib.hid (HM.out.call hb); clear hb)
    | (go_at_call 74; (with_reducible refine (HS.out _).mono ?_); rintro e w2 ⟨v, rfl, ht, hb⟩; obtain ⟨g, cap, rfl, hc⟩ := ht; have C1 := Lib.hid hc; clear hc; replace HM := Lib.hid (HM.out.call hb); clear hb))
  go_ret
  exact ⟨rfl, Own.fin HM⟩
theorem drop_tx (Q : List Tx) (k : Nat) (hk : k < Q.length) : Q.drop k = sg Q k :: Q.drop (k + 1) := by
  rw [List.drop_eq_getElem_cons hk, sg, List.getD_eq_getElem?_getD, List.getElem?_eq_getElem hk]
  rfl
set_option maxRecDepth 100000 in
set_option maxHeartbeats 6400000 in
theorem ind_f (n : Nat) (hn : n < 256) (t b : Tx) (ht : rPlain n = t) (hb : b.length ≤ 2) (lt : t.length ≤ 16) (h1 : (t == [69, 88, 32, 68, 69, 44, 72, 76]) = false) (h2 : (t == [74, 80, 32, 40, 72, 76, 41]) = false) (h3 : rHas t [40, 72, 76, 41] = false) (h4 : rHas t [72, 76] = false) (h5 : ¬ (rSplit t 32).length < 2) (w : World) : Calls Tryz.prog 57 #[.int .u8 (n : Int), .string ⟨b.toArray⟩] w fun e w' => e = .returned (.string ⟨(rJoin b 0 (sg (rSplit t 32) 0 ++ [32]) (rSplit (sg (rSplit t 32) 1) 44)).toArray⟩) ∧ Below w.heap.size w w' := by
  have HP := Lib.hid (plain_call n hn t ht)
  have hw := rW_len n hn
  have hp := rP_len n hn
  rw [rP, rW, ht] at hp
  rw [rW, ht] at hw
  have HH1 := Lib.hid (has_call t [40, 72, 76, 41] false h3 (by omega) (by decide) (by decide))
  have HH2 := Lib.hid (has_call t [72, 76] false h4 (by omega) (by decide) (by decide))
  have HS : Hid (∀ w, Calls Tryz.prog 74 #[.string ⟨t.toArray⟩, .int .u8 32] w fun e w' => ∃ v, e = .returned v ∧ TextsIn w' v (rSplit t 32) ∧ Below w.heap.size w w') := rsplit_at t 32 32 rfl (by omega)
  obtain ⟨L, hL⟩ : ∃ L, L = rSplit t 32 := ⟨_, rfl⟩
  rw [← hL] at HS hw hp h5
  rw [← hL]
  obtain ⟨hw1, -, lw0, lw1⟩ := hw
  obtain ⟨hp1, lp⟩ := hp
  have HN : Hid (2 ≤ L.length) := by show _ ≤ _; omega
  obtain ⟨N, hN⟩ : ∃ N, L.length = N := ⟨_, rfl⟩
  have HN2 := Lib.hid hN
  have n2 : (2 : Int) ≤ (N : Int) := by omega
  have n3 : (1 : Int) < (N : Int) := by omega
  have n4 : (0 : Int) < (N : Int) := by omega
  obtain ⟨s0, hs0⟩ : ∃ s0, sg L 0 = s0 := ⟨_, rfl⟩
  obtain ⟨s1, hs1⟩ : ∃ s1, sg L 1 = s1 := ⟨_, rfl⟩
  have HS0 := Lib.hid hs0
  have HS1 := Lib.hid hs1
  rw [hs0] at lw0 ⊢
  rw [hs1] at lw1 hp1 lp ⊢
  have HS2 : Hid (∀ w, Calls Tryz.prog 74 #[.string ⟨s1.toArray⟩, .int .u8 44] w fun e w' => ∃ v, e = .returned v ∧ TextsIn w' v (rSplit s1 44) ∧ Below w.heap.size w w') := rsplit_at s1 44 44 rfl (by omega)
  obtain ⟨Q, hQ⟩ : ∃ Q, Q = rSplit s1 44 := ⟨_, rfl⟩
  rw [← hQ] at HS2 hp1 lp
  rw [← hQ]
  obtain ⟨M, hM⟩ : ∃ M, Q.length = M := ⟨_, rfl⟩
  have HK := Lib.hid hM
  have LP := Lib.hid lp
  have m4 : M ≤ 3 := by omega
  clear h5 hN hL hM hQ hp1 lp hw1 hs0 hs1 ht
  have HM := Lib.hid (Own.start w)
  go_enter Tryz.func57, Tryz.ntmps57
  go_wp2_with (first
    | (go_at_call 39; (with_reducible refine (HP.out _).mono ?_); rintro e w' ⟨rfl, hb⟩; replace HM := Lib.hid (HM.out.call hb); clear hb)
    | (go_at_call 23; (first | (with_reducible refine (HH1.out _).mono ?_) | (with_reducible refine (HH2.out _).mono ?_)); rintro e w' ⟨rfl, hb⟩; replace HM := Lib.hid (HM.out.call hb); clear hb)
    | (go_at_call 74; (with_reducible refine (HS.out _).mono ?_); rintro e w2 ⟨v, rfl, ht, hb⟩; obtain ⟨g, cap, rfl, hc⟩ := ht; have c0 := hc 0 (by have h := HN.out; omega); have c1 := hc 1 (by have h := HN.out; omega); rw [HS0.out] at c0; rw [HS1.out] at c1; clear hc; rw [HN2.out]; replace HM := Lib.hid (HM.out.call hb); clear hb)
    | (go_at_call 74; (with_reducible refine (HS2.out _).mono ?_); rintro e w3 ⟨v, rfl, ht, hb⟩; obtain ⟨g2, cap2, rfl, hc⟩ := ht; have C2 := Lib.hid hc; clear hc; rw [HK.out]; have d0 := (hb.cell (block_lt_of_cell c0)).trans c0; clear c0 c1; have c0 := d0; clear d0; replace HM := Lib.hid (HM.out.call hb); clear hb)
    | ((with_reducible apply own_cat); exact rfl; exact rfl; exact rfl; (first | assumption | decide | ((try simp only [List.length_append, List.length_cons, List.length_nil]); omega)); exact rfl))
  obtain ⟨o0, ho0⟩ : ∃ o0, s0 ++ [32] = o0 := ⟨_, rfl⟩
  have HO0 := Lib.hid ho0
  have lo0 : o0.length ≤ 17 := by rw [← ho0]; simp only [List.length_append, List.length_cons, List.length_nil]; omega
  rw [ho0]
  clear ho0 c0
  go_loopw [8, 49] (fun ot i wr => ∃ (k : Nat) (o : Tx), k ≤ M ∧ i = .int .i64 k ∧ ot = .string ⟨o.toArray⟩ ∧ o.length ≤ 17 + 30 * k ∧ Hid (rJoin b k o (Q.drop k) = rJoin b 0 o0 Q) ∧ Hid (∀ j < M, wr.cell? ⟨g2, j, none⟩ = some (.string ⟨(sg Q j).toArray⟩)) ∧ Hid (Own w wr [])) (fun _ i _ => M - (intOf i).toNat)
  case atStart => exact ⟨0, o0, by omega, rfl, rfl, by omega, rfl, by rw [← HK.out]; exact C2.out, HM⟩
  case round =>
    clear HM C2
    obtain ⟨k, o, hk, rfl, rfl, lo, HO, HC, HM⟩ := hrel
    by_cases hlt : k < M
    · have hlt' : (k : Int) < (M : Int) := by omega
      have HD : Hid (Q.drop k = sg Q k :: Q.drop (k + 1)) := drop_tx Q k (by rw [HK.out]; exact hlt)
      have ck := HC.out k hlt
      have lx0 : (sg Q k).length ≤ 16 := LP.out k (by omega)
      obtain ⟨x, hx⟩ : ∃ x, sg Q k = x := ⟨_, rfl⟩
      rw [hx] at HD ck lx0
      clear hx
      by_cases hk0 : k = 0
      · by_cases hX1 : x = [72]
        · have hX := hX1
          have HX : x = [72] := hX
          subst HX
          have HJ : Hid (rJoin b (k + 1) ((o) ++ (b ++ [72])) (Q.drop (k + 1)) = rJoin b 0 o0 Q) := by
            show _ = _
            rw [← HO.out, HD.out, rJoin, show rFix b [72] = b ++ [72] from by rw [rFix, if_pos (.inl rfl)]]
            rw [if_neg (by omega)]
          have k0 : ¬ (0 : Int) < (k : Int) := by omega
          clear hk0
          have lx : (b ++ [72]).length ≤ 20 := by (try simp only [List.length_append, List.length_cons, List.length_nil]); omega
          go_wp2_with (first
            | ((with_reducible apply own_cat); exact rfl; exact rfl; exact rfl; (first | assumption | decide | ((try simp only [List.length_append, List.length_cons, List.length_nil]); omega)); exact rfl))
          go_roundw
          case rel =>
            refine ⟨k + 1, (o) ++ (b ++ [72]), by omega, by go_num, ?_, ?_, HJ, ?_, HM⟩
            · (try simp only [List.append_assoc, List.cons_append, List.nil_append])
            · simp only [List.length_append, List.length_cons, List.length_nil] at lx ⊢; omega
            · exact HC
          case measure => simp [intOf]; omega
        · by_cases hX2 : x = [76]
          · have hX := hX2
            have HX : x = [76] := hX
            subst HX
            have HJ : Hid (rJoin b (k + 1) ((o) ++ (b ++ [76])) (Q.drop (k + 1)) = rJoin b 0 o0 Q) := by
              show _ = _
              rw [← HO.out, HD.out, rJoin, show rFix b [76] = b ++ [76] from by rw [rFix, if_pos (.inr rfl)]]
              rw [if_neg (by omega)]
            have k0 : ¬ (0 : Int) < (k : Int) := by omega
            clear hk0
            have lx : (b ++ [76]).length ≤ 20 := by (try simp only [List.length_append, List.length_cons, List.length_nil]); omega
            go_wp2_with (first
              | ((with_reducible apply own_cat); exact rfl; exact rfl; exact rfl; (first | assumption | decide | ((try simp only [List.length_append, List.length_cons, List.length_nil]); omega)); exact rfl))
            go_roundw
            case rel =>
              refine ⟨k + 1, (o) ++ (b ++ [76]), by omega, by go_num, ?_, ?_, HJ, ?_, HM⟩
              · (try simp only [List.append_assoc, List.cons_append, List.nil_append])
              · simp only [List.length_append, List.length_cons, List.length_nil] at lx ⊢; omega
              · exact HC
            case measure => simp [intOf]; omega
          · skip
            have g1 : (x == [72]) = false := by rw [beq_eq_false_iff_ne]; exact hX1
            have g2 : (x == [76]) = false := by rw [beq_eq_false_iff_ne]; exact hX2
            have HJ : Hid (rJoin b (k + 1) ((o) ++ (x)) (Q.drop (k + 1)) = rJoin b 0 o0 Q) := by
              show _ = _
              rw [← HO.out, HD.out, rJoin, show rFix b x = x from by rw [rFix, if_neg (fun h => h.elim hX1 hX2)]]
              rw [if_neg (by omega)]
            have k0 : ¬ (0 : Int) < (k : Int) := by omega
            clear hk0
            have lx : (x).length ≤ 20 := by (try simp only [List.length_append, List.length_cons, List.length_nil]); omega
            go_wp2_with (first
              | ((with_reducible apply own_cat); exact rfl; exact rfl; exact rfl; (first | assumption | decide | ((try simp only [List.length_append, List.length_cons, List.length_nil]); omega)); exact rfl))
            go_roundw
            case rel =>
              refine ⟨k + 1, (o) ++ (x), by omega, by go_num, ?_, ?_, HJ, ?_, HM⟩
              · (try simp only [List.append_assoc, List.cons_append, List.nil_append])
              · simp only [List.length_append, List.length_cons, List.length_nil] at lx ⊢; omega
              · exact HC
            case measure => simp [intOf]; omega
      · by_cases hX1 : x = [72]
        · have hX := hX1
          have HX : x = [72] := hX
          subst HX
          have HJ : Hid (rJoin b (k + 1) ((o ++ [44]) ++ (b ++ [72])) (Q.drop (k + 1)) = rJoin b 0 o0 Q) := by
            show _ = _
            rw [← HO.out, HD.out, rJoin, show rFix b [72] = b ++ [72] from by rw [rFix, if_pos (.inl rfl)]]
            rw [if_pos (by omega)]
          have k0 : (0 : Int) < (k : Int) := by omega
          clear hk0
          have lx : (b ++ [72]).length ≤ 20 := by (try simp only [List.length_append, List.length_cons, List.length_nil]); omega
          go_wp2_with (first
            | ((with_reducible apply own_cat); exact rfl; exact rfl; exact rfl; (first | assumption | decide | ((try simp only [List.length_append, List.length_cons, List.length_nil]); omega)); exact rfl))
          go_roundw
          case rel =>
            refine ⟨k + 1, (o ++ [44]) ++ (b ++ [72]), by omega, by go_num, ?_, ?_, HJ, ?_, HM⟩
            · (try simp only [List.append_assoc, List.cons_append, List.nil_append])
            · simp only [List.length_append, List.length_cons, List.length_nil] at lx ⊢; omega
            · exact HC
          case measure => simp [intOf]; omega
        · by_cases hX2 : x = [76]
          · have hX := hX2
            have HX : x = [76] := hX
            subst HX
            have HJ : Hid (rJoin b (k + 1) ((o ++ [44]) ++ (b ++ [76])) (Q.drop (k + 1)) = rJoin b 0 o0 Q) := by
              show _ = _
              rw [← HO.out, HD.out, rJoin, show rFix b [76] = b ++ [76] from by rw [rFix, if_pos (.inr rfl)]]
              rw [if_pos (by omega)]
            have k0 : (0 : Int) < (k : Int) := by omega
            clear hk0
            have lx : (b ++ [76]).length ≤ 20 := by (try simp only [List.length_append, List.length_cons, List.length_nil]); omega
            go_wp2_with (first
              | ((with_reducible apply own_cat); exact rfl; exact rfl; exact rfl; (first | assumption | decide | ((try simp only [List.length_append, List.length_cons, List.length_nil]); omega)); exact rfl))
            go_roundw
            case rel =>
              refine ⟨k + 1, (o ++ [44]) ++ (b ++ [76]), by omega, by go_num, ?_, ?_, HJ, ?_, HM⟩
              · (try simp only [List.append_assoc, List.cons_append, List.nil_append])
              · simp only [List.length_append, List.length_cons, List.length_nil] at lx ⊢; omega
              · exact HC
            case measure => simp [intOf]; omega
          · skip
            have g1 : (x == [72]) = false := by rw [beq_eq_false_iff_ne]; exact hX1
            have g2 : (x == [76]) = false := by rw [beq_eq_false_iff_ne]; exact hX2
            have HJ : Hid (rJoin b (k + 1) ((o ++ [44]) ++ (x)) (Q.drop (k + 1)) = rJoin b 0 o0 Q) := by
              show _ = _
              rw [← HO.out, HD.out, rJoin, show rFix b x = x from by rw [rFix, if_neg (fun h => h.elim hX1 hX2)]]
              rw [if_pos (by omega)]
            have k0 : (0 : Int) < (k : Int) := by omega
            clear hk0
            have lx : (x).length ≤ 20 := by (try simp only [List.length_append, List.length_cons, List.length_nil]); omega
            go_wp2_with (first
              | ((with_reducible apply own_cat); exact rfl; exact rfl; exact rfl; (first | assumption | decide | ((try simp only [List.length_append, List.length_cons, List.length_nil]); omega)); exact rfl))
            go_roundw
            case rel =>
              refine ⟨k + 1, (o ++ [44]) ++ (x), by omega, by go_num, ?_, ?_, HJ, ?_, HM⟩
              · (try simp only [List.append_assoc, List.cons_append, List.nil_append])
              · simp only [List.length_append, List.length_cons, List.length_nil] at lx ⊢; omega
              · exact HC
            case measure => simp [intOf]; omega
    · obtain rfl : k = M := by omega
      have HE : Hid (o = rJoin b 0 o0 Q) := by
        show _ = _
        rw [← HO.out, ← HK.out, List.drop_length]; rfl
      go_wp2_with fail
      go_ret
      exact ⟨by rw [HO0.out, ← HE.out]; rfl, Own.fin HM⟩
theorem indexed_at (n : Nat) (hn : n < 256) (b : Tx) (hb : b.length ≤ 2) (w : World) : Calls Tryz.prog 57 #[.int .u8 (n : Int), .string ⟨b.toArray⟩] w fun e w' => e = .returned (.string ⟨(rIndexed n b).toArray⟩) ∧ Below w.heap.size w w' := by
  obtain ⟨t, ht⟩ : ∃ t, rPlain n = t := ⟨_, rfl⟩
  have lt : t.length ≤ 16 := by rw [← ht]; exact len_plain n hn
  rw [rIndexed, ht]
  have neg : ∀ (a b : Tx), a ≠ b → (a == b) = false := fun a b h => by rw [beq_eq_false_iff_ne]; exact h
  show Calls Tryz.prog 57 _ w fun e w' => e = .returned (.string ⟨(if t = [69, 88, 32, 68, 69, 44, 72, 76] then t else if t = [74, 80, 32, 40, 72, 76, 41] then [74, 80, 32, 40] ++ b ++ [41] else if rHas t [40, 72, 76, 41] then rReplace t [40, 72, 76, 41] ([40] ++ b ++ [43, 100, 41]) else if rHas t [72, 76] then rReplace t [72, 76] b else if (rSplit t 32).length < 2 then t else rJoin b 0 (sg (rSplit t 32) 0 ++ [32]) (rSplit (sg (rSplit t 32) 1) 44)).toArray⟩) ∧ Below w.heap.size w w'
  by_cases h1 : t = [69, 88, 32, 68, 69, 44, 72, 76]
  · rw [if_pos h1]; exact ind_a n hn t b ht hb lt (by rw [h1]; rfl) w
  · rw [if_neg h1]
    by_cases h2 : t = [74, 80, 32, 40, 72, 76, 41]
    · rw [if_pos h2, List.append_assoc]; exact ind_b n hn t b ht hb lt (neg _ _ h1) (by rw [h2]; rfl) w
    · rw [if_neg h2]
      by_cases h3 : rHas t [40, 72, 76, 41] = true
      · rw [if_pos h3, List.append_assoc]; exact ind_c n hn t b ht hb lt (neg _ _ h1) (neg _ _ h2) h3 w
      · rw [if_neg h3]
        by_cases h4 : rHas t [72, 76] = true
        · rw [if_pos h4]; exact ind_d n hn t b ht hb lt (neg _ _ h1) (neg _ _ h2) (by simpa using h3) h4 w
        · rw [if_neg h4]
          by_cases h5 : (rSplit t 32).length < 2
          · rw [if_pos h5]; exact ind_e n hn t b ht hb lt (neg _ _ h1) (neg _ _ h2) (by simpa using h3) (by simpa using h4) h5 w
          · rw [if_neg h5]; exact ind_f n hn t b ht hb lt (neg _ _ h1) (neg _ _ h2) (by simpa using h3) (by simpa using h4) h5 w
end Go.Proofs.YtljjgakfnajifaaGreatDoor
set_option linter.unusedSimpArgs false
set_option linter.unusedVariables false
namespace Go.Proofs.YtljjgakfnajifaaGreatDoor
open Go.RowKit
set_option maxRecDepth 100000 in
set_option maxHeartbeats 3200000 in
theorem rpat_0 (n : Nat) (hn : n < 256) (w : World) : Calls Tryz.prog 31 #[.int .i64 0, .int .u8 (n : Int)] w fun e w' => e = .returned (.string ⟨(rPlain n).toArray⟩) ∧ Below w.heap.size w w' := by
  have HM := Lib.hid (Own.start w)
  go_enter Tryz.func31, Tryz.ntmps31
  go_wp2_with (first
    | (go_at_call 39; (with_reducible refine (rplain_at n hn _).mono ?_); rintro e w' ⟨rfl, hb⟩; replace HM := Lib.hid (HM.out.call hb); clear hb))
  all_goals go_ret
  all_goals exact ⟨rfl, Own.fin HM⟩
set_option maxRecDepth 100000 in
set_option maxHeartbeats 3200000 in
theorem rpat_1 (n : Nat) (hn : n < 256) (w : World) : Calls Tryz.prog 31 #[.int .i64 1, .int .u8 (n : Int)] w fun e w' => e = .returned (.string ⟨(rBits n (e_ones (n % 8))).toArray⟩) ∧ Below w.heap.size w w' := by
  obtain ⟨b, hb⟩ : ∃ b, b = n % 8 := ⟨_, rfl⟩
  have b7 : b < 8 := by omega
  have b8 : (b : Int) < 8 := by omega
  have lb := len_ones b b7
  have rb1 : (n : Int).tmod 8 = (b : Int) := by rw [Int.tmod_eq_emod_of_nonneg (by omega)]; omega
  have rb2 : (n : Int) % 8 = (b : Int) := by omega
  rw [← hb]
  have HB : Hid (∀ w, Calls Tryz.prog 54 #[.int .u8 (n : Int), .string ⟨(e_ones b).toArray⟩] w fun e w' => e = .returned (.string ⟨(rBits n (e_ones b)).toArray⟩) ∧ Below w.heap.size w w') := rbits_at n hn (e_ones b) (by omega)
  obtain ⟨z, hz⟩ : ∃ z, z = rBits n (e_ones b) := ⟨_, rfl⟩
  rw [← hz] at HB
  rw [← hz]
  clear hb hz
  have HM := Lib.hid (Own.start w)
  go_enter Tryz.func31, Tryz.ntmps31
  go_wp2_with (first
    | (go_at_call 55; refine (ones_el _).mono ?_; rintro e w2 ⟨g, cap, rfl, hc, hb⟩; have x0 := hc b b7;  (first | (have y := (hb.cell (block_lt_of_cell ca)).trans ca; clear ca; have ca := y; clear y) | skip); (first | (have ca := x0; clear x0) | skip);  clear hc; replace HM := Lib.hid (HM.out.call hb); clear hb)
    | (go_at_call 54; (with_reducible refine (HB.out _).mono ?_); rintro e w' ⟨rfl, hb⟩; replace HM := Lib.hid (HM.out.call hb); clear hb))
  all_goals go_ret
  all_goals exact ⟨rfl, Own.fin HM⟩
set_option maxRecDepth 100000 in
set_option maxHeartbeats 3200000 in
theorem rpat_2 (n : Nat) (hn : n < 256) (w : World) : Calls Tryz.prog 31 #[.int .i64 2, .int .u8 (n : Int)] w fun e w' => e = .returned (.string ⟨(rExtended n).toArray⟩) ∧ Below w.heap.size w w' := by
  have HM := Lib.hid (Own.start w)
  go_enter Tryz.func31, Tryz.ntmps31
  go_wp2_with (first
    | (go_at_call 56; (with_reducible refine (rext_at n hn _).mono ?_); rintro e w' ⟨rfl, hb⟩; replace HM := Lib.hid (HM.out.call hb); clear hb))
  all_goals go_ret
  all_goals exact ⟨rfl, Own.fin HM⟩
set_option maxRecDepth 100000 in
set_option maxHeartbeats 3200000 in
theorem rpat_3 (n : Nat) (hn : n < 256) (w : World) : Calls Tryz.prog 31 #[.int .i64 3, .int .u8 (n : Int)] w fun e w' => e = .returned (.string ⟨(rIndexed n pIX).toArray⟩) ∧ Below w.heap.size w w' := by
  have HM := Lib.hid (Own.start w)
  go_enter Tryz.func31, Tryz.ntmps31
  go_wp2_with (first
    | (go_at_call 57; refine (indexed_at n hn [73, 88] (by decide) _).mono ?_; rintro e w' ⟨rfl, hb⟩; replace HM := Lib.hid (HM.out.call hb); clear hb))
  all_goals go_ret
  all_goals exact ⟨rfl, Own.fin HM⟩
set_option maxRecDepth 100000 in
set_option maxHeartbeats 3200000 in
theorem rpat_4 (n : Nat) (hn : n < 256) (w : World) : Calls Tryz.prog 31 #[.int .i64 4, .int .u8 (n : Int)] w fun e w' => e = .returned (.string ⟨(rIndexed n pIY).toArray⟩) ∧ Below w.heap.size w w' := by
  have HM := Lib.hid (Own.start w)
  go_enter Tryz.func31, Tryz.ntmps31
  go_wp2_with (first
    | (go_at_call 57; refine (indexed_at n hn [73, 89] (by decide) _).mono ?_; rintro e w' ⟨rfl, hb⟩; replace HM := Lib.hid (HM.out.call hb); clear hb))
  all_goals go_ret
  all_goals exact ⟨rfl, Own.fin HM⟩
theorem pidx5 (w : World) : (Instr.index 75 (.agg #[.string ⟨#[73, 88]⟩, .string ⟨#[73, 89]⟩]) (.int .i64 0)).run Tryz.prog w = .ok (.string ⟨#[73, 88]⟩) w := by kernel_rfl
theorem hlr5 : ∀ n < 256, (rBits n [40, 73, 88, 43, 100, 41]).length ≤ 60 := by decide +kernel
set_option maxRecDepth 100000 in
set_option maxHeartbeats 3200000 in
theorem rpat_5x (n : Nat) (hn : n < 256) (h1 : n / 64 = 1) (w : World) : Calls Tryz.prog 31 #[.int .i64 5, .int .u8 (n : Int)] w fun e w' => e = .returned (.string ⟨(rBits n [40, 73, 88, 43, 100, 41]).toArray⟩) ∧ Below w.heap.size w w' := by
  obtain ⟨x, hx⟩ : ∃ x, x = n / 64 := ⟨_, rfl⟩
  have x8 : (x : Int) < 4 := by omega
  have qx1 : IntKind.u8.wrap ((n : Int).tdiv 64) = (x : Int) := by rw [Int.tdiv_eq_ediv_of_nonneg (by omega), IntKind.wrap_u8]; omega
  have qx2 : (n : Int) / 64 = (x : Int) := by omega
  have qx3 : IntKind.u8.wrap (x : Int) = (x : Int) := by rw [IntKind.wrap_u8]; omega
  have HB : Hid (∀ w, Calls Tryz.prog 54 #[.int .u8 (n : Int), .string ⟨([40, 73, 88, 43, 100, 41]).toArray⟩] w fun e w' => e = .returned (.string ⟨(rBits n ([40, 73, 88, 43, 100, 41])).toArray⟩) ∧ Below w.heap.size w w') := rbits_at n hn ([40, 73, 88, 43, 100, 41]) (by decide)
  obtain ⟨z, hz⟩ : ∃ z, z = rBits n ([40, 73, 88, 43, 100, 41]) := ⟨_, rfl⟩
  rw [← hz] at HB
  rw [← hz]
  have g1 : ((x : Int) == 1) = true := by rw [beq_iff_eq]; omega
  have g3 : ((x : Int) != 1) = false := by rw [bne_eq_false_iff_eq]; omega
  have lz : z.length ≤ 60 := by rw [hz]; exact hlr5 n hn
  clear hx hz h1
  have HM := Lib.hid (Own.start w)
  go_enter Tryz.func31, Tryz.ntmps31
  go_wp2_with (first
    | ((with_reducible apply own_index); exact rfl; exact rfl; exact rfl; exact pidx5; exact rfl)
    | ((with_reducible apply own_cat); exact rfl; exact rfl; exact rfl; (first | assumption | decide | ((try simp only [List.length_append, List.length_cons, List.length_nil]); omega)); exact rfl)
    | (go_at_call 54; refine (HB.out _).mono ?_; rintro e w' ⟨rfl, hb⟩; replace HM := Lib.hid (HM.out.call hb); clear hb))
  all_goals go_ret
  all_goals exact ⟨rfl, Own.fin HM⟩
set_option maxRecDepth 100000 in
set_option maxHeartbeats 3200000 in
theorem rpat_5z (n : Nat) (hn : n < 256) (h1 : n / 64 ≠ 1) (h2 : n % 8 = 6) (w : World) : Calls Tryz.prog 31 #[.int .i64 5, .int .u8 (n : Int)] w fun e w' => e = .returned (.string ⟨(rBits n [40, 73, 88, 43, 100, 41]).toArray⟩) ∧ Below w.heap.size w w' := by
  obtain ⟨b, hb⟩ : ∃ b, b = n % 8 := ⟨_, rfl⟩
  have b7 : b < 8 := by omega
  have b8 : (b : Int) < 8 := by omega
  have lb := len_ones b b7
  have rb1 : (n : Int).tmod 8 = (b : Int) := by rw [Int.tmod_eq_emod_of_nonneg (by omega)]; omega
  have rb2 : (n : Int) % 8 = (b : Int) := by omega
  obtain ⟨x, hx⟩ : ∃ x, x = n / 64 := ⟨_, rfl⟩
  have x8 : (x : Int) < 4 := by omega
  have qx1 : IntKind.u8.wrap ((n : Int).tdiv 64) = (x : Int) := by rw [Int.tdiv_eq_ediv_of_nonneg (by omega), IntKind.wrap_u8]; omega
  have qx2 : (n : Int) / 64 = (x : Int) := by omega
  have qx3 : IntKind.u8.wrap (x : Int) = (x : Int) := by rw [IntKind.wrap_u8]; omega
  have HB : Hid (∀ w, Calls Tryz.prog 54 #[.int .u8 (n : Int), .string ⟨([40, 73, 88, 43, 100, 41]).toArray⟩] w fun e w' => e = .returned (.string ⟨(rBits n ([40, 73, 88, 43, 100, 41])).toArray⟩) ∧ Below w.heap.size w w') := rbits_at n hn ([40, 73, 88, 43, 100, 41]) (by decide)
  obtain ⟨z, hz⟩ : ∃ z, z = rBits n ([40, 73, 88, 43, 100, 41]) := ⟨_, rfl⟩
  rw [← hz] at HB
  rw [← hz]
  have g1 : ((x : Int) == 1) = false := by rw [beq_eq_false_iff_ne]; omega
  have g3 : ((x : Int) != 1) = true := by rw [bne_iff_ne]; omega
  have g2 : ((b : Int) == 6) = true := by rw [beq_iff_eq]; omega
  have g4 : ((b : Int) != 6) = false := by rw [bne_eq_false_iff_eq]; omega
  have lz : z.length ≤ 60 := by rw [hz]; exact hlr5 n hn
  clear hx hz h1 h2 hb
  have HM := Lib.hid (Own.start w)
  go_enter Tryz.func31, Tryz.ntmps31
  go_wp2_with (first
    | ((with_reducible apply own_index); exact rfl; exact rfl; exact rfl; exact pidx5; exact rfl)
    | ((with_reducible apply own_cat); exact rfl; exact rfl; exact rfl; (first | assumption | decide | ((try simp only [List.length_append, List.length_cons, List.length_nil]); omega)); exact rfl)
    | (go_at_call 54; refine (HB.out _).mono ?_; rintro e w' ⟨rfl, hb⟩; replace HM := Lib.hid (HM.out.call hb); clear hb))
  all_goals go_ret
  all_goals exact ⟨rfl, Own.fin HM⟩
set_option maxRecDepth 100000 in
set_option maxHeartbeats 3200000 in
theorem rpat_5n (n : Nat) (hn : n < 256) (h1 : n / 64 ≠ 1) (h2 : n % 8 ≠ 6) (w : World) : Calls Tryz.prog 31 #[.int .i64 5, .int .u8 (n : Int)] w fun e w' => e = .returned (.string ⟨(rBits n [40, 73, 88, 43, 100, 41] ++ ([44] ++ e_ones (n % 8))).toArray⟩) ∧ Below w.heap.size w w' := by
  obtain ⟨b, hb⟩ : ∃ b, b = n % 8 := ⟨_, rfl⟩
  have b7 : b < 8 := by omega
  have b8 : (b : Int) < 8 := by omega
  have lb := len_ones b b7
  have rb1 : (n : Int).tmod 8 = (b : Int) := by rw [Int.tmod_eq_emod_of_nonneg (by omega)]; omega
  have rb2 : (n : Int) % 8 = (b : Int) := by omega
  rw [← hb]
  obtain ⟨x, hx⟩ : ∃ x, x = n / 64 := ⟨_, rfl⟩
  have x8 : (x : Int) < 4 := by omega
  have qx1 : IntKind.u8.wrap ((n : Int).tdiv 64) = (x : Int) := by rw [Int.tdiv_eq_ediv_of_nonneg (by omega), IntKind.wrap_u8]; omega
  have qx2 : (n : Int) / 64 = (x : Int) := by omega
  have qx3 : IntKind.u8.wrap (x : Int) = (x : Int) := by rw [IntKind.wrap_u8]; omega
  have HB : Hid (∀ w, Calls Tryz.prog 54 #[.int .u8 (n : Int), .string ⟨([40, 73, 88, 43, 100, 41]).toArray⟩] w fun e w' => e = .returned (.string ⟨(rBits n ([40, 73, 88, 43, 100, 41])).toArray⟩) ∧ Below w.heap.size w w') := rbits_at n hn ([40, 73, 88, 43, 100, 41]) (by decide)
  obtain ⟨z, hz⟩ : ∃ z, z = rBits n ([40, 73, 88, 43, 100, 41]) := ⟨_, rfl⟩
  rw [← hz] at HB
  rw [← hz]
  have g1 : ((x : Int) == 1) = false := by rw [beq_eq_false_iff_ne]; omega
  have g3 : ((x : Int) != 1) = true := by rw [bne_iff_ne]; omega
  have g2 : ((b : Int) == 6) = false := by rw [beq_eq_false_iff_ne]; omega
  have g4 : ((b : Int) != 6) = true := by rw [bne_iff_ne]; omega
  have lz : z.length ≤ 60 := by rw [hz]; exact hlr5 n hn
  clear hx hz h1 h2 hb
  have HM := Lib.hid (Own.start w)
  go_enter Tryz.func31, Tryz.ntmps31
  go_wp2_with (first
    | ((with_reducible apply own_index); exact rfl; exact rfl; exact rfl; exact pidx5; exact rfl)
    | ((with_reducible apply own_cat); exact rfl; exact rfl; exact rfl; (first | assumption | decide | ((try simp only [List.length_append, List.length_cons, List.length_nil]); omega)); exact rfl)
    | (go_at_call 54; refine (HB.out _).mono ?_; rintro e w' ⟨rfl, hb⟩; replace HM := Lib.hid (HM.out.call hb); clear hb)
    | (go_at_call 55; refine (ones_el _).mono ?_; rintro e w2 ⟨g, cap, rfl, hc, hb⟩; have x0 := hc b b7;  (first | (have y := (hb.cell (block_lt_of_cell ca)).trans ca; clear ca; have ca := y; clear y) | skip); (first | (have ca := x0; clear x0) | skip);  clear hc; replace HM := Lib.hid (HM.out.call hb); clear hb))
  all_goals go_ret
  all_goals exact ⟨rfl, Own.fin HM⟩
theorem pidx6 (w : World) : (Instr.index 75 (.agg #[.string ⟨#[73, 88]⟩, .string ⟨#[73, 89]⟩]) (.int .i64 1)).run Tryz.prog w = .ok (.string ⟨#[73, 89]⟩) w := by kernel_rfl
theorem hlr6 : ∀ n < 256, (rBits n [40, 73, 89, 43, 100, 41]).length ≤ 60 := by decide +kernel
set_option maxRecDepth 100000 in
set_option maxHeartbeats 3200000 in
theorem rpat_6x (n : Nat) (hn : n < 256) (h1 : n / 64 = 1) (w : World) : Calls Tryz.prog 31 #[.int .i64 6, .int .u8 (n : Int)] w fun e w' => e = .returned (.string ⟨(rBits n [40, 73, 89, 43, 100, 41]).toArray⟩) ∧ Below w.heap.size w w' := by
  obtain ⟨x, hx⟩ : ∃ x, x = n / 64 := ⟨_, rfl⟩
  have x8 : (x : Int) < 4 := by omega
  have qx1 : IntKind.u8.wrap ((n : Int).tdiv 64) = (x : Int) := by rw [Int.tdiv_eq_ediv_of_nonneg (by omega), IntKind.wrap_u8]; omega
  have qx2 : (n : Int) / 64 = (x : Int) := by omega
  have qx3 : IntKind.u8.wrap (x : Int) = (x : Int) := by rw [IntKind.wrap_u8]; omega
  have HB : Hid (∀ w, Calls Tryz.prog 54 #[.int .u8 (n : Int), .string ⟨([40, 73, 89, 43, 100, 41]).toArray⟩] w fun e w' => e = .returned (.string ⟨(rBits n ([40, 73, 89, 43, 100, 41])).toArray⟩) ∧ Below w.heap.size w w') := rbits_at n hn ([40, 73, 89, 43, 100, 41]) (by decide)
  obtain ⟨z, hz⟩ : ∃ z, z = rBits n ([40, 73, 89, 43, 100, 41]) := ⟨_, rfl⟩
  rw [← hz] at HB
  rw [← hz]
  have g1 : ((x : Int) == 1) = true := by rw [beq_iff_eq]; omega
  have g3 : ((x : Int) != 1) = false := by rw [bne_eq_false_iff_eq]; omega
  have lz : z.length ≤ 60 := by rw [hz]; exact hlr6 n hn
  clear hx hz h1
  have HM := Lib.hid (Own.start w)
  go_enter Tryz.func31, Tryz.ntmps31
  go_wp2_with (first
    | ((with_reducible apply own_index); exact rfl; exact rfl; exact rfl; exact pidx6; exact rfl)
    | ((with_reducible apply own_cat); exact rfl; exact rfl; exact rfl; (first | assumption | decide | ((try simp only [List.length_append, List.length_cons, List.length_nil]); omega)); exact rfl)
    | (go_at_call 54; refine (HB.out _).mono ?_; rintro e w' ⟨rfl, hb⟩; replace HM := Lib.hid (HM.out.call hb); clear hb))
  all_goals go_ret
  all_goals exact ⟨rfl, Own.fin HM⟩
set_option maxRecDepth 100000 in
set_option maxHeartbeats 3200000 in
theorem rpat_6z (n : Nat) (hn : n < 256) (h1 : n / 64 ≠ 1) (h2 : n % 8 = 6) (w : World) : Calls Tryz.prog 31 #[.int .i64 6, .int .u8 (n : Int)] w fun e w' => e = .returned (.string ⟨(rBits n [40, 73, 89, 43, 100, 41]).toArray⟩) ∧ Below w.heap.size w w' := by
  obtain ⟨b, hb⟩ : ∃ b, b = n % 8 := ⟨_, rfl⟩
  have b7 : b < 8 := by omega
  have b8 : (b : Int) < 8 := by omega
  have lb := len_ones b b7
  have rb1 : (n : Int).tmod 8 = (b : Int) := by rw [Int.tmod_eq_emod_of_nonneg (by omega)]; omega
  have rb2 : (n : Int) % 8 = (b : Int) := by omega
  obtain ⟨x, hx⟩ : ∃ x, x = n / 64 := ⟨_, rfl⟩
  have x8 : (x : Int) < 4 := by omega
  have qx1 : IntKind.u8.wrap ((n : Int).tdiv 64) = (x : Int) := by rw [Int.tdiv_eq_ediv_of_nonneg (by omega), IntKind.wrap_u8]; omega
  have qx2 : (n : Int) / 64 = (x : Int) := by omega
  have qx3 : IntKind.u8.wrap (x : Int) = (x : Int) := by rw [IntKind.wrap_u8]; omega
  have HB : Hid (∀ w, Calls Tryz.prog 54 #[.int .u8 (n : Int), .string ⟨([40, 73, 89, 43, 100, 41]).toArray⟩] w fun e w' => e = .returned (.string ⟨(rBits n ([40, 73, 89, 43, 100, 41])).toArray⟩) ∧ Below w.heap.size w w') := rbits_at n hn ([40, 73, 89, 43, 100, 41]) (by decide)
  obtain ⟨z, hz⟩ : ∃ z, z = rBits n ([40, 73, 89, 43, 100, 41]) := ⟨_, rfl⟩
  rw [← hz] at HB
  rw [← hz]
  have g1 : ((x : Int) == 1) = false := by rw [beq_eq_false_iff_ne]; omega
  have g3 : ((x : Int) != 1) = true := by rw [bne_iff_ne]; omega
  have g2 : ((b : Int) == 6) = true := by rw [beq_iff_eq]; omega
  have g4 : ((b : Int) != 6) = false := by rw [bne_eq_false_iff_eq]; omega
  have lz : z.length ≤ 60 := by rw [hz]; exact hlr6 n hn
  clear hx hz h1 h2 hb
  have HM := Lib.hid (Own.start w)
  go_enter Tryz.func31, Tryz.ntmps31
  go_wp2_with (first
    | ((with_reducible apply own_index); exact rfl; exact rfl; exact rfl; exact pidx6; exact rfl)
    | ((with_reducible apply own_cat); exact rfl; exact rfl; exact rfl; (first | assumption | decide | ((try simp only [List.length_append, List.length_cons, List.length_nil]); omega)); exact rfl)
    | (go_at_call 54; refine (HB.out _).mono ?_; rintro e w' ⟨rfl, hb⟩; replace HM := Lib.hid (HM.out.call hb); clear hb))
  all_goals go_ret
  all_goals exact ⟨rfl, Own.fin HM⟩
set_option maxRecDepth 100000 in
set_option maxHeartbeats 3200000 in
theorem rpat_6n (n : Nat) (hn : n < 256) (h1 : n / 64 ≠ 1) (h2 : n % 8 ≠ 6) (w : World) : Calls Tryz.prog 31 #[.int .i64 6, .int .u8 (n : Int)] w fun e w' => e = .returned (.string ⟨(rBits n [40, 73, 89, 43, 100, 41] ++ ([44] ++ e_ones (n % 8))).toArray⟩) ∧ Below w.heap.size w w' := by
  obtain ⟨b, hb⟩ : ∃ b, b = n % 8 := ⟨_, rfl⟩
  have b7 : b < 8 := by omega
  have b8 : (b : Int) < 8 := by omega
  have lb := len_ones b b7
  have rb1 : (n : Int).tmod 8 = (b : Int) := by rw [Int.tmod_eq_emod_of_nonneg (by omega)]; omega
  have rb2 : (n : Int) % 8 = (b : Int) := by omega
  rw [← hb]
  obtain ⟨x, hx⟩ : ∃ x, x = n / 64 := ⟨_, rfl⟩
  have x8 : (x : Int) < 4 := by omega
  have qx1 : IntKind.u8.wrap ((n : Int).tdiv 64) = (x : Int) := by rw [Int.tdiv_eq_ediv_of_nonneg (by omega), IntKind.wrap_u8]; omega
  have qx2 : (n : Int) / 64 = (x : Int) := by omega
  have qx3 : IntKind.u8.wrap (x : Int) = (x : Int) := by rw [IntKind.wrap_u8]; omega
  have HB : Hid (∀ w, Calls Tryz.prog 54 #[.int .u8 (n : Int), .string ⟨([40, 73, 89, 43, 100, 41]).toArray⟩] w fun e w' => e = .returned (.string ⟨(rBits n ([40, 73, 89, 43, 100, 41])).toArray⟩) ∧ Below w.heap.size w w') := rbits_at n hn ([40, 73, 89, 43, 100, 41]) (by decide)
  obtain ⟨z, hz⟩ : ∃ z, z = rBits n ([40, 73, 89, 43, 100, 41]) := ⟨_, rfl⟩
  rw [← hz] at HB
  rw [← hz]
  have g1 : ((x : Int) == 1) = false := by rw [beq_eq_false_iff_ne]; omega
  have g3 : ((x : Int) != 1) = true := by rw [bne_iff_ne]; omega
  have g2 : ((b : Int) == 6) = false := by rw [beq_eq_false_iff_ne]; omega
  have g4 : ((b : Int) != 6) = true := by rw [bne_iff_ne]; omega
  have lz : z.length ≤ 60 := by rw [hz]; exact hlr6 n hn
  clear hx hz h1 h2 hb
  have HM := Lib.hid (Own.start w)
  go_enter Tryz.func31, Tryz.ntmps31
  go_wp2_with (first
    | ((with_reducible apply own_index); exact rfl; exact rfl; exact rfl; exact pidx6; exact rfl)
    | ((with_reducible apply own_cat); exact rfl; exact rfl; exact rfl; (first | assumption | decide | ((try simp only [List.length_append, List.length_cons, List.length_nil]); omega)); exact rfl)
    | (go_at_call 54; refine (HB.out _).mono ?_; rintro e w' ⟨rfl, hb⟩; replace HM := Lib.hid (HM.out.call hb); clear hb)
    | (go_at_call 55; refine (ones_el _).mono ?_; rintro e w2 ⟨g, cap, rfl, hc, hb⟩; have x0 := hc b b7;  (first | (have y := (hb.cell (block_lt_of_cell ca)).trans ca; clear ca; have ca := y; clear y) | skip); (first | (have ca := x0; clear x0) | skip);  clear hc; replace HM := Lib.hid (HM.out.call hb); clear hb))
  all_goals go_ret
  all_goals exact ⟨rfl, Own.fin HM⟩
set_option maxRecDepth 100000 in
set_option maxHeartbeats 3200000 in
theorem rpat_x (n : Nat) (hn : n < 256) (page : Int) (h : page < 0 ∨ 6 < page) (w : World) : Calls Tryz.prog 31 #[.int .i64 page, .int .u8 (n : Int)] w fun e w' => e = .returned (.string ⟨(([] : Tx)).toArray⟩) ∧ Below w.heap.size w w' := by
  have g0 : (page == 0) = false := by rw [beq_eq_false_iff_ne]; omega
  have g1 : (page == 1) = false := by rw [beq_eq_false_iff_ne]; omega
  have g2 : (page == 2) = false := by rw [beq_eq_false_iff_ne]; omega
  have g3 : (page == 3) = false := by rw [beq_eq_false_iff_ne]; omega
  have g4 : (page == 4) = false := by rw [beq_eq_false_iff_ne]; omega
  have g5 : (page == 5) = false := by rw [beq_eq_false_iff_ne]; omega
  have g6 : (page == 6) = false := by rw [beq_eq_false_iff_ne]; omega
  have HM := Lib.hid (Own.start w)
  go_enter Tryz.func31, Tryz.ntmps31
  go_wp2_with fail
  all_goals go_ret
  all_goals exact ⟨rfl, Own.fin HM⟩
theorem rpat_at (page : Int) (n : Nat) (hn : n < 256) (w : World) : Calls Tryz.prog 31 #[.int .i64 page, .int .u8 (n : Int)] w fun e w' => e = .returned (.string ⟨(rPat page n).toArray⟩) ∧ Below w.heap.size w w' := by
  by_cases h : page < 0 ∨ 6 < page
  · have e : rPat page n = [] := by
      rw [rPat, if_neg (by omega), if_neg (by omega), if_neg (by omega), if_neg (by omega), if_neg (by omega), if_neg (by omega)]
    rw [e]
    exact rpat_x n hn page h w
  · obtain rfl | rfl | rfl | rfl | rfl | rfl | rfl : page = 0 ∨ page = 1 ∨ page = 2 ∨ page = 3 ∨ page = 4 ∨ page = 5 ∨ page = 6 := by omega
    · exact rpat_0 n hn w
    · exact rpat_1 n hn w
    · exact rpat_2 n hn w
    · exact rpat_3 n hn w
    · exact rpat_4 n hn w
    · by_cases h1 : n / 64 = 1
      · have e : rPat 5 n = rBits n [40, 73, 88, 43, 100, 41] := by
          show (if n / 64 ≠ 1 ∧ n % 8 ≠ 6 then rBits n [40, 73, 88, 43, 100, 41] ++ [44] ++ sg rOnes (n % 8) else rBits n [40, 73, 88, 43, 100, 41]) = _
          rw [if_neg (fun h => h.1 h1)]
        rw [e]; exact rpat_5x n hn h1 w
      · by_cases h2 : n % 8 = 6
        · have e : rPat 5 n = rBits n [40, 73, 88, 43, 100, 41] := by
            show (if n / 64 ≠ 1 ∧ n % 8 ≠ 6 then rBits n [40, 73, 88, 43, 100, 41] ++ [44] ++ sg rOnes (n % 8) else rBits n [40, 73, 88, 43, 100, 41]) = _
            rw [if_neg (fun h => h.2 h2)]
          rw [e]; exact rpat_5z n hn h1 h2 w
        · have e : rPat 5 n = rBits n [40, 73, 88, 43, 100, 41] ++ ([44] ++ e_ones (n % 8)) := by
            show (if n / 64 ≠ 1 ∧ n % 8 ≠ 6 then rBits n [40, 73, 88, 43, 100, 41] ++ [44] ++ sg rOnes (n % 8) else rBits n [40, 73, 88, 43, 100, 41]) = _
            rw [if_pos ⟨h1, h2⟩, List.append_assoc]; rfl
          rw [e]; exact rpat_5n n hn h1 h2 w
    · by_cases h1 : n / 64 = 1
      · have e : rPat 6 n = rBits n [40, 73, 89, 43, 100, 41] := by
          show (if n / 64 ≠ 1 ∧ n % 8 ≠ 6 then rBits n [40, 73, 89, 43, 100, 41] ++ [44] ++ sg rOnes (n % 8) else rBits n [40, 73, 89, 43, 100, 41]) = _
          rw [if_neg (fun h => h.1 h1)]
        rw [e]; exact rpat_6x n hn h1 w
      · by_cases h2 : n % 8 = 6
        · have e : rPat 6 n = rBits n [40, 73, 89, 43, 100, 41] := by
            show (if n / 64 ≠ 1 ∧ n % 8 ≠ 6 then rBits n [40, 73, 89, 43, 100, 41] ++ [44] ++ sg rOnes (n % 8) else rBits n [40, 73, 89, 43, 100, 41]) = _
            rw [if_neg (fun h => h.2 h2)]
          rw [e]; exact rpat_6z n hn h1 h2 w
        · have e : rPat 6 n = rBits n [40, 73, 89, 43, 100, 41] ++ ([44] ++ e_ones (n % 8)) := by
            show (if n / 64 ≠ 1 ∧ n % 8 ≠ 6 then rBits n [40, 73, 89, 43, 100, 41] ++ [44] ++ sg rOnes (n % 8) else rBits n [40, 73, 89, 43, 100, 41]) = _
            rw [if_pos ⟨h1, h2⟩, List.append_assoc]; rfl
          rw [e]; exact rpat_6n n hn h1 h2 w
end Go.Proofs.YtljjgakfnajifaaGreatDoor
