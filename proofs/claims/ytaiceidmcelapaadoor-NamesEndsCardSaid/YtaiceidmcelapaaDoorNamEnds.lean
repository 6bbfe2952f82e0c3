/-
  What stands behind an instruction doesn't matter.
-/
import Derived.Test.YtaiceidmcelapaaDoorNamAll
set_option linter.unusedSimpArgs false
set_option linter.unusedVariables false
namespace Go.Proofs.YtaiceidmcelapaaDoor
open Go.RowKit

set_option maxRecDepth 100000 in
set_option maxHeartbeats 6400000 in
theorem ends_longA (a a2 : Option Addr) (n c m c2 : Nat) (h : 40 < n) (w : World) (hTab : Tabs w) : Calls Tryd.prog 6 #[.slice a n c, .slice a2 m c2] w fun e w' => e = .returned (.bool true) ∧ Below w.heap.size w w' := by
  have hT : Hid (Tabs w) := hTab
  clear hTab
  have h1 : (40 : Int) < (n : Int) := by omega
  have HM := Lib.hid (Own.start w)
  go_enter Tryd.func6, Tryd.ntmps6
  go_wp2_with (first
    | (go_at_call 9; (with_reducible refine (alive_any _ (Tabs.own hT HM)).mono ?_); rintro e w' ⟨rfl, hb⟩; have HM' := Lib.hid (HM.out.call hb); clear HM hb; have HM := HM'; clear HM'))
  go_ret
  exact ⟨rfl, Own.fin HM⟩
set_option maxRecDepth 100000 in
set_option maxHeartbeats 6400000 in
theorem ends_longB (a a2 : Option Addr) (n c m c2 : Nat) (h : n ≤ 40) (h2 : 40 < m) (w : World) (hTab : Tabs w) : Calls Tryd.prog 6 #[.slice a n c, .slice a2 m c2] w fun e w' => e = .returned (.bool true) ∧ Below w.heap.size w w' := by
  have hT : Hid (Tabs w) := hTab
  clear hTab
  have h1 : (n : Int) ≤ 40 := by omega
  have h3 : (40 : Int) < (m : Int) := by omega
  have HM := Lib.hid (Own.start w)
  go_enter Tryd.func6, Tryd.ntmps6
  go_wp2_with (first
    | (go_at_call 9; (with_reducible refine (alive_any _ (Tabs.own hT HM)).mono ?_); rintro e w' ⟨rfl, hb⟩; have HM' := Lib.hid (HM.out.call hb); clear HM hb; have HM := HM'; clear HM'))
  go_ret
  exact ⟨rfl, Own.fin HM⟩
set_option maxRecDepth 100000 in
set_option maxHeartbeats 6400000 in
theorem ends_cut (bs ms : List Nat) (a : Option Addr) (n c : Nat) (a2 : Option Addr) (m c2 : Nat) (hn : bs.length = n) (hm : ms.length = m) (h1 : n ≤ 40) (h2 : m ≤ 40) (hb8 : ∀ i, bs.getD i 0 < 256) (hm8 : ∀ i, ms.getD i 0 < 256) (x : Tx) (k : Nat) (hx : (cName bs).1 = x) (hk : (cName bs).2 = k) (hkn : n < k) (w : World) (hR0 : Rd w (.slice a n c) (by8 bs)) (hM0 : Rd w (.slice a2 m c2) (by8 ms)) (hTab : Tabs w) : Calls Tryd.prog 6 #[.slice a n c, .slice a2 m c2] w fun e w' => e = .returned (.bool true) ∧ Below w.heap.size w w' := by
  have hT : Hid (Tabs w) := hTab
  have hR : Hid (Rd w (.slice a n c) (by8 bs)) := hR0
  have hM : Hid (Rd w (.slice a2 m c2) (by8 ms)) := hM0
  have HN : Hid (∀ (v : Value) (w : World), Rd w v (by8 bs) → Tabs w → Calls Tryd.prog 8 #[v] w fun e w' => e = .returned (.tuple #[.string ⟨x.toArray⟩, .int .i64 (k : Int)]) ∧ Below w.heap.size w w') := by
    intro v w h1 h2
    have := name_at v bs (by omega) hb8 w h1 h2
    rw [hx, hk] at this
    exact this
  have HN4 : Hid (∀ (v : Value) (w : World), Rd w v (by8 ([] ++ bs ++ List.replicate 4 0)) → Tabs w → Calls Tryd.prog 8 #[v] w fun e w' => e = .returned (.tuple #[.string ⟨x.toArray⟩, .int .i64 (k : Int)]) ∧ Below w.heap.size w w') := by
    intro v w h1 h2
    have hp : ∀ i, ([] ++ bs ++ List.replicate 4 0).getD i 0 = bs.getD i 0 := fun i => by rw [List.nil_append]; exact getD_pad bs 4 i
    have := name_at v ([] ++ bs ++ List.replicate 4 0) (by simp only [List.length_append, List.length_nil, List.length_replicate]; omega) (fun i => by rw [hp]; exact hb8 i) w h1 h2
    rw [name_at_all bs _ hp, hx, hk] at this
    exact this
  have n40 : (n : Int) ≤ 40 := by omega
  have m40 : (m : Int) ≤ 40 := by omega
  have hl : bs.length ≤ 40 := by omega
  have hl2 : ms.length ≤ 40 := by omega
  have kn : (n : Int) < (k : Int) := by omega
  clear hTab hR0 hM0 hx hk hn hm hb8 hm8
  obtain ⟨i0, hi, hz0, hz1, hz2⟩ := u8_parts
  have HI := Lib.hid hi
  have HZ0 := Lib.hid hz0
  have HZ1 := Lib.hid hz1
  have HZ2 := Lib.hid hz2
  clear hi hz0 hz1 hz2
  have HM := Lib.hid (Own.start w)
  have tg1 : Hid True := trivial
  have tg2 : Hid True := trivial
  go_enter Tryd.func6, Tryd.ntmps6
  go_wp2_with (first
    | (go_at_call 9; (with_reducible refine (alive_any _ (Tabs.own hT HM)).mono ?_); rintro e w' ⟨rfl, hb⟩; have HM' := Lib.hid (HM.out.call hb); clear HM hb; have HM := HM'; clear HM')
    | ((with_reducible apply own_made (cs := []) (e := 5) (n := 0) HM); exact rfl; exact madeB0; (focus (go_simp; done)); exact rfl; (first | (clear tg1; intro w' g1 HM'; clear HM; have HM := HM'; clear HM'; have HR : Hid (RowIs 5 [(g1, 5, [])] (.slice (some ⟨g1, 0, none⟩) 0 0) (by8 [])) := RowIs.made) | (clear tg2; clear HR; intro w' g2 HM'; clear HM; have HM := HM'; clear HM'; have HR : Hid (RowIs 5 [(g2, 5, [])] (.slice (some ⟨g2, 0, none⟩) 0 0) (by8 [])) := RowIs.made)); all_goals skip)
    | (refine own_app Tryd.underlying24 HI.out HZ0.out HZ1.out HZ2.out rfl (by decide) HM HR (List.Sublist.cons_cons _ (List.nil_sublist _)) rfl rfl rfl (Rd.own hR HM) (by8_one bs) (by simp only [List.length_append, by8_length, List.length_nil, List.length_replicate, List.length_take]; omega) rfl ?_; intro v1 w1 R1 HR' HM'; clear HM HR; have HM := HM'; have HR := HR'; clear HM' HR'; rw [← by8_append] at HR; all_goals skip)
    | ((with_reducible apply own_made (cs := by8 (List.replicate 4 0)) (e := 5) (n := 4) HM); exact rfl; exact madeB4; (focus (go_simp; done)); exact rfl; intro w' g4 HM'; clear HM; have HM := HM'; clear HM'; all_goals skip)
    | (refine own_app Tryd.underlying24 HI.out HZ0.out HZ1.out HZ2.out rfl (by decide) HM HR (List.sublist_cons_self _ _) rfl rfl rfl (Rd.ofWhole (HM.out.at_ .z) rfl) (by8_one (List.replicate 4 0)) (by simp only [List.length_append, by8_length, List.length_nil, List.length_replicate, List.length_take]; omega) rfl ?_; intro v1 w1 R1 HR' HM'; clear HM HR; have HM := HM'; have HR := HR'; clear HM' HR'; rw [← by8_append] at HR; all_goals skip)
    | (go_at_call 8; (first | (with_reducible refine (HN.out _ _ (Rd.own hR HM) (Tabs.own hT HM)).mono ?_) | (with_reducible refine (HN4.out _ _ (Rd.ofRow HR.out (fun e he => (HM.out.whole e he).2)) (Tabs.own hT HM)).mono ?_)); rintro e w' ⟨rfl, hb⟩; have HM' := Lib.hid (HM.out.call hb); clear HM hb; have HM := HM'; clear HM'))
  go_ret
  exact ⟨rfl, Own.fin HM⟩
theorem getD_mix (bs ms : List Nat) (k : Nat) (h1 : ∀ i, bs.getD i 0 < 256) (h2 : ∀ i, ms.getD i 0 < 256) (i : Nat) : (bs.take k ++ ms).getD i 0 < 256 := by
  simp only [List.getD_eq_getElem?_getD, List.getElem?_append, List.getElem?_take]
  simp only [List.getD_eq_getElem?_getD] at h1 h2
  split
  · split
    · exact h1 i
    · decide
  · exact h2 _
theorem getD_same (bs ms : List Nat) (k : Nat) (hk : k ≤ bs.length) (i : Nat) (hi : i < k) : (bs.take k ++ ms).getD i 0 = bs.getD i 0 := by
  simp only [List.getD_eq_getElem?_getD, List.getElem?_append, List.getElem?_take, List.length_take]
  rw [if_pos (by omega), if_pos hi]
theorem rd_take {w : World} {g o n c : Nat} {bs : List Nat} (k : Nat) (h : Rd w (.slice (some ⟨g, o, none⟩) n c) (by8 bs)) (hk : k ≤ bs.length) : Rd w (.slice (some ⟨g, o, none⟩) k c) (by8 (bs.take k)) := by
  have hl : (by8 (bs.take k)).length = k := by rw [by8_length, List.length_take]; omega
  rcases h with ⟨hv, -⟩ | ⟨ad, cap, hv, hb⟩ | ⟨g', o', cap, hv, hg, hc⟩
  · cases hv
  · have hb' : bs = [] := by simpa [by8] using hb
    subst hb'
    obtain rfl : k = 0 := by simpa using hk
    exact .inr (.inl ⟨_, _, rfl, rfl⟩)
  · injection hv with h1 h2 h3
    injection h1 with h1
    injection h1 with h4 h5
    subst h4 h5
    refine .inr (.inr ⟨g, o, c, by rw [hl], hg, fun j u hu => hc j u ?_⟩)
    rw [by8, List.map_take, List.getElem?_take] at hu
    split at hu
    · exact hu
    · cases hu
theorem rd_head {w : World} {g o n c b : Nat} {bs : List Nat} (h : Rd w (.slice (some ⟨g, o, none⟩) n c) (by8 bs)) (hn : 0 < bs.length) (hb : bs.getD 0 0 = b) : w.cell? ⟨g, o, none⟩ = some (.int .u8 (b : Int)) := by
  rcases h with ⟨hv, -⟩ | ⟨ad, cap, hv, he⟩ | ⟨g', o', cap, hv, hg, hc⟩
  · cases hv
  · have hb' : bs = [] := by simpa [by8] using he
    rw [hb'] at hn
    exact absurd hn (by decide)
  · injection hv with h1 h2 h3
    injection h1 with h1
    injection h1 with h4 h5
    subst h4 h5
    have := hc 0 _ (by8_get bs 0 hn)
    rwa [hb, Nat.add_zero] at this
set_option maxRecDepth 100000 in
set_option maxHeartbeats 6400000 in
theorem ends_many (bs ms : List Nat) (g o : Nat) (n c : Nat) (a2 : Option Addr) (m c2 : Nat) (hn : bs.length = n) (hm : ms.length = m) (h1 : n ≤ 40) (h2 : m ≤ 40) (hb8 : ∀ i, bs.getD i 0 < 256) (hm8 : ∀ i, ms.getD i 0 < 256) (x : Tx) (k : Nat) (hx : (cName bs).1 = x) (hk : (cName bs).2 = k) (hkn : k ≤ n) (hk1 : 1 ≤ k) (hnc : n ≤ c) (hk2 : k ≠ 1) (hsame : cName (bs.take k ++ ms) = cName bs) (w : World) (hR0 : Rd w (.slice (some ⟨g, o, none⟩) n c) (by8 bs)) (hM0 : Rd w (.slice a2 m c2) (by8 ms)) (hTab : Tabs w) : Calls Tryd.prog 6 #[.slice (some ⟨g, o, none⟩) n c, .slice a2 m c2] w fun e w' => e = .returned (.bool true) ∧ Below w.heap.size w w' := by
  have hT : Hid (Tabs w) := hTab
  have hR : Hid (Rd w (.slice (some ⟨g, o, none⟩) n c) (by8 bs)) := hR0
  have hM : Hid (Rd w (.slice a2 m c2) (by8 ms)) := hM0
  have HN : Hid (∀ (v : Value) (w : World), Rd w v (by8 bs) → Tabs w → Calls Tryd.prog 8 #[v] w fun e w' => e = .returned (.tuple #[.string ⟨x.toArray⟩, .int .i64 (k : Int)]) ∧ Below w.heap.size w w') := by
    intro v w h1 h2
    have := name_at v bs (by omega) hb8 w h1 h2
    rw [hx, hk] at this
    exact this
  have HN4 : Hid (∀ (v : Value) (w : World), Rd w v (by8 ([] ++ bs ++ List.replicate 4 0)) → Tabs w → Calls Tryd.prog 8 #[v] w fun e w' => e = .returned (.tuple #[.string ⟨x.toArray⟩, .int .i64 (k : Int)]) ∧ Below w.heap.size w w') := by
    intro v w h1 h2
    have hp : ∀ i, ([] ++ bs ++ List.replicate 4 0).getD i 0 = bs.getD i 0 := fun i => by rw [List.nil_append]; exact getD_pad bs 4 i
    have := name_at v ([] ++ bs ++ List.replicate 4 0) (by simp only [List.length_append, List.length_nil, List.length_replicate]; omega) (fun i => by rw [hp]; exact hb8 i) w h1 h2
    rw [name_at_all bs _ hp, hx, hk] at this
    exact this
  have HN5 : Hid (∀ (v : Value) (w : World), Rd w v (by8 ([] ++ bs.take k ++ ms)) → Tabs w → Calls Tryd.prog 8 #[v] w fun e w' => e = .returned (.tuple #[.string ⟨x.toArray⟩, .int .i64 (k : Int)]) ∧ Below w.heap.size w w') := by
    intro v w h1 h2
    have hp : ∀ i, ([] ++ bs.take k ++ ms).getD i 0 < 256 := fun i => by rw [List.nil_append]; exact getD_mix bs ms k hb8 hm8 i
    have := name_at v ([] ++ bs.take k ++ ms) (by simp only [List.length_append, List.length_nil, List.length_take]; omega) hp w h1 h2
    rw [List.nil_append] at this
    rw [hsame, hx, hk] at this
    rw [List.nil_append] at h1
    exact this
  have hRk : Hid (Rd w (.slice (some ⟨g, o, none⟩) k c) (by8 (bs.take k))) := rd_take k hR0 (by omega)
  have n40 : (n : Int) ≤ 40 := by omega
  have m40 : (m : Int) ≤ 40 := by omega
  have hl : bs.length ≤ 40 := by omega
  have hl2 : ms.length ≤ 40 := by omega
  have kn : (k : Int) ≤ (n : Int) := by omega
  have kc : (k : Int) ≤ (c : Int) := by omega
  have k0 : (0 : Int) ≤ (k : Int) := by omega
  have c0 : w.cell? ⟨g, o, none⟩ = some (.int .u8 ((bs.getD 0 0 : Nat) : Int)) := rd_head hR0 (by omega) (rfl)
  have gk : ((k : Int) == 1) = false := by rw [beq_eq_false_iff_ne]; omega
  clear hsame
  clear hTab hR0 hM0 hx hk hn hm hb8 hm8
  obtain ⟨i0, hi, hz0, hz1, hz2⟩ := u8_parts
  have HI := Lib.hid hi
  have HZ0 := Lib.hid hz0
  have HZ1 := Lib.hid hz1
  have HZ2 := Lib.hid hz2
  clear hi hz0 hz1 hz2
  have HM := Lib.hid (Own.start w)
  have tg1 : Hid True := trivial
  have tg2 : Hid True := trivial
  go_enter Tryd.func6, Tryd.ntmps6
  go_wp2_with (first
    | (go_at_call 9; (with_reducible refine (alive_any _ (Tabs.own hT HM)).mono ?_); rintro e w' ⟨rfl, hb⟩; have HM' := Lib.hid (HM.out.call hb); clear HM hb; have HM := HM'; clear HM')
    | ((with_reducible apply own_made (cs := []) (e := 5) (n := 0) HM); exact rfl; exact madeB0; (focus (go_simp; done)); exact rfl; (first | (clear tg1; intro w' g1 HM'; clear HM; have HM := HM'; clear HM'; have HR : Hid (RowIs 5 [(g1, 5, [])] (.slice (some ⟨g1, 0, none⟩) 0 0) (by8 [])) := RowIs.made) | (clear tg2; clear HR; intro w' g2 HM'; clear HM; have HM := HM'; clear HM'; have HR : Hid (RowIs 5 [(g2, 5, [])] (.slice (some ⟨g2, 0, none⟩) 0 0) (by8 [])) := RowIs.made)); all_goals skip)
    | (refine own_app Tryd.underlying24 HI.out HZ0.out HZ1.out HZ2.out rfl (by decide) HM HR (List.Sublist.cons_cons _ (List.nil_sublist _)) rfl rfl rfl (Rd.own hR HM) (by8_one bs) (by simp only [List.length_append, by8_length, List.length_nil, List.length_replicate, List.length_take]; omega) rfl ?_; intro v1 w1 R1 HR' HM'; clear HM HR; have HM := HM'; have HR := HR'; clear HM' HR'; rw [← by8_append] at HR; all_goals skip)
    | ((with_reducible apply own_made (cs := by8 (List.replicate 4 0)) (e := 5) (n := 4) HM); exact rfl; exact madeB4; (focus (go_simp; done)); exact rfl; intro w' g4 HM'; clear HM; have HM := HM'; clear HM'; all_goals skip)
    | (refine own_app Tryd.underlying24 HI.out HZ0.out HZ1.out HZ2.out rfl (by decide) HM HR (List.sublist_cons_self _ _) rfl rfl rfl (Rd.ofWhole (HM.out.at_ .z) rfl) (by8_one (List.replicate 4 0)) (by simp only [List.length_append, by8_length, List.length_nil, List.length_replicate, List.length_take]; omega) rfl ?_; intro v1 w1 R1 HR' HM'; clear HM HR; have HM := HM'; have HR := HR'; clear HM' HR'; rw [← by8_append] at HR; all_goals skip)
    | (refine own_app Tryd.underlying24 HI.out HZ0.out HZ1.out HZ2.out rfl (by decide) HM HR (List.Sublist.cons_cons _ (List.nil_sublist _)) rfl rfl rfl (Rd.own hRk HM) (by8_one (bs.take k)) (by simp only [List.length_append, by8_length, List.length_nil, List.length_replicate, List.length_take]; omega) rfl ?_; intro v1 w1 R1 HR' HM'; clear HM HR; have HM := HM'; have HR := HR'; clear HM' HR'; rw [← by8_append] at HR; all_goals skip)
    | (refine own_app Tryd.underlying24 HI.out HZ0.out HZ1.out HZ2.out rfl (by decide) HM HR (List.Sublist.refl _) rfl rfl rfl (Rd.own hM HM) (by8_one ms) (by simp only [List.length_append, by8_length, List.length_nil, List.length_replicate, List.length_take]; omega) rfl ?_; intro v1 w1 R1 HR' HM'; clear HM HR; have HM := HM'; have HR := HR'; clear HM' HR'; rw [← by8_append] at HR; all_goals skip)
    | (go_at_call 8; (first | (with_reducible refine (HN.out _ _ (Rd.own hR HM) (Tabs.own hT HM)).mono ?_) | (with_reducible refine (HN4.out _ _ (Rd.ofRow HR.out (fun e he => (HM.out.whole e he).2)) (Tabs.own hT HM)).mono ?_) | (with_reducible refine (HN5.out _ _ (Rd.ofRow HR.out (fun e he => (HM.out.whole e he).2)) (Tabs.own hT HM)).mono ?_)); rintro e w' ⟨rfl, hb⟩; have HM' := Lib.hid (HM.out.call hb); clear HM hb; have HM := HM'; clear HM')
    | ((with_reducible apply own_old HM); exact rfl; exact rfl; (with_reducible exact oneU8); (with_reducible exact c0); exact rfl; exact rfl; all_goals skip))
  go_ret
  exact ⟨rfl, Own.fin HM⟩
set_option maxRecDepth 100000 in
set_option maxHeartbeats 6400000 in
theorem ends_dd (bs ms : List Nat) (g o : Nat) (n c : Nat) (a2 : Option Addr) (m c2 : Nat) (hn : bs.length = n) (hm : ms.length = m) (h1 : n ≤ 40) (h2 : m ≤ 40) (hb8 : ∀ i, bs.getD i 0 < 256) (hm8 : ∀ i, ms.getD i 0 < 256) (x : Tx) (k : Nat) (hx : (cName bs).1 = x) (hk : (cName bs).2 = k) (hkn : k ≤ n) (hk1 : 1 ≤ k) (hnc : n ≤ c) (hk2 : k = 1) (h0 : bs.getD 0 0 = 221) (x5 : Tx) (k5 : Nat) (hx5 : (cName (bs.take k ++ ms)).1 = x5) (hk5 : (cName (bs.take k ++ ms)).2 = k5) (w : World) (hR0 : Rd w (.slice (some ⟨g, o, none⟩) n c) (by8 bs)) (hM0 : Rd w (.slice a2 m c2) (by8 ms)) (hTab : Tabs w) : Calls Tryd.prog 6 #[.slice (some ⟨g, o, none⟩) n c, .slice a2 m c2] w fun e w' => e = .returned (.bool true) ∧ Below w.heap.size w w' := by
  have hT : Hid (Tabs w) := hTab
  have hR : Hid (Rd w (.slice (some ⟨g, o, none⟩) n c) (by8 bs)) := hR0
  have hM : Hid (Rd w (.slice a2 m c2) (by8 ms)) := hM0
  have HN : Hid (∀ (v : Value) (w : World), Rd w v (by8 bs) → Tabs w → Calls Tryd.prog 8 #[v] w fun e w' => e = .returned (.tuple #[.string ⟨x.toArray⟩, .int .i64 (k : Int)]) ∧ Below w.heap.size w w') := by
    intro v w h1 h2
    have := name_at v bs (by omega) hb8 w h1 h2
    rw [hx, hk] at this
    exact this
  have HN4 : Hid (∀ (v : Value) (w : World), Rd w v (by8 ([] ++ bs ++ List.replicate 4 0)) → Tabs w → Calls Tryd.prog 8 #[v] w fun e w' => e = .returned (.tuple #[.string ⟨x.toArray⟩, .int .i64 (k : Int)]) ∧ Below w.heap.size w w') := by
    intro v w h1 h2
    have hp : ∀ i, ([] ++ bs ++ List.replicate 4 0).getD i 0 = bs.getD i 0 := fun i => by rw [List.nil_append]; exact getD_pad bs 4 i
    have := name_at v ([] ++ bs ++ List.replicate 4 0) (by simp only [List.length_append, List.length_nil, List.length_replicate]; omega) (fun i => by rw [hp]; exact hb8 i) w h1 h2
    rw [name_at_all bs _ hp, hx, hk] at this
    exact this
  have HN5 : Hid (∀ (v : Value) (w : World), Rd w v (by8 ([] ++ bs.take k ++ ms)) → Tabs w → Calls Tryd.prog 8 #[v] w fun e w' => e = .returned (.tuple #[.string ⟨x5.toArray⟩, .int .i64 (k5 : Int)]) ∧ Below w.heap.size w w') := by
    intro v w h1 h2
    have hp : ∀ i, ([] ++ bs.take k ++ ms).getD i 0 < 256 := fun i => by rw [List.nil_append]; exact getD_mix bs ms k hb8 hm8 i
    have := name_at v ([] ++ bs.take k ++ ms) (by simp only [List.length_append, List.length_nil, List.length_take]; omega) hp w h1 h2
    rw [List.nil_append] at this
    rw [hx5, hk5] at this
    rw [List.nil_append] at h1
    exact this
  have hRk : Hid (Rd w (.slice (some ⟨g, o, none⟩) k c) (by8 (bs.take k))) := rd_take k hR0 (by omega)
  have n40 : (n : Int) ≤ 40 := by omega
  have m40 : (m : Int) ≤ 40 := by omega
  have hl : bs.length ≤ 40 := by omega
  have hl2 : ms.length ≤ 40 := by omega
  have kn : (k : Int) ≤ (n : Int) := by omega
  have kc : (k : Int) ≤ (c : Int) := by omega
  have k0 : (0 : Int) ≤ (k : Int) := by omega
  have c0 : w.cell? ⟨g, o, none⟩ = some (.int .u8 ((221 : Nat) : Int)) := rd_head hR0 (by omega) (h0)
  have gk : ((k : Int) == 1) = true := by rw [beq_iff_eq]; omega
  clear hx5 hk5 h0 hk2
  clear hTab hR0 hM0 hx hk hn hm hb8 hm8
  obtain ⟨i0, hi, hz0, hz1, hz2⟩ := u8_parts
  have HI := Lib.hid hi
  have HZ0 := Lib.hid hz0
  have HZ1 := Lib.hid hz1
  have HZ2 := Lib.hid hz2
  clear hi hz0 hz1 hz2
  have HM := Lib.hid (Own.start w)
  have tg1 : Hid True := trivial
  have tg2 : Hid True := trivial
  go_enter Tryd.func6, Tryd.ntmps6
  go_wp2_with (first
    | (go_at_call 9; (with_reducible refine (alive_any _ (Tabs.own hT HM)).mono ?_); rintro e w' ⟨rfl, hb⟩; have HM' := Lib.hid (HM.out.call hb); clear HM hb; have HM := HM'; clear HM')
    | ((with_reducible apply own_made (cs := []) (e := 5) (n := 0) HM); exact rfl; exact madeB0; (focus (go_simp; done)); exact rfl; (first | (clear tg1; intro w' g1 HM'; clear HM; have HM := HM'; clear HM'; have HR : Hid (RowIs 5 [(g1, 5, [])] (.slice (some ⟨g1, 0, none⟩) 0 0) (by8 [])) := RowIs.made) | (clear tg2; clear HR; intro w' g2 HM'; clear HM; have HM := HM'; clear HM'; have HR : Hid (RowIs 5 [(g2, 5, [])] (.slice (some ⟨g2, 0, none⟩) 0 0) (by8 [])) := RowIs.made)); all_goals skip)
    | (refine own_app Tryd.underlying24 HI.out HZ0.out HZ1.out HZ2.out rfl (by decide) HM HR (List.Sublist.cons_cons _ (List.nil_sublist _)) rfl rfl rfl (Rd.own hR HM) (by8_one bs) (by simp only [List.length_append, by8_length, List.length_nil, List.length_replicate, List.length_take]; omega) rfl ?_; intro v1 w1 R1 HR' HM'; clear HM HR; have HM := HM'; have HR := HR'; clear HM' HR'; rw [← by8_append] at HR; all_goals skip)
    | ((with_reducible apply own_made (cs := by8 (List.replicate 4 0)) (e := 5) (n := 4) HM); exact rfl; exact madeB4; (focus (go_simp; done)); exact rfl; intro w' g4 HM'; clear HM; have HM := HM'; clear HM'; all_goals skip)
    | (refine own_app Tryd.underlying24 HI.out HZ0.out HZ1.out HZ2.out rfl (by decide) HM HR (List.sublist_cons_self _ _) rfl rfl rfl (Rd.ofWhole (HM.out.at_ .z) rfl) (by8_one (List.replicate 4 0)) (by simp only [List.length_append, by8_length, List.length_nil, List.length_replicate, List.length_take]; omega) rfl ?_; intro v1 w1 R1 HR' HM'; clear HM HR; have HM := HM'; have HR := HR'; clear HM' HR'; rw [← by8_append] at HR; all_goals skip)
    | (refine own_app Tryd.underlying24 HI.out HZ0.out HZ1.out HZ2.out rfl (by decide) HM HR (List.Sublist.cons_cons _ (List.nil_sublist _)) rfl rfl rfl (Rd.own hRk HM) (by8_one (bs.take k)) (by simp only [List.length_append, by8_length, List.length_nil, List.length_replicate, List.length_take]; omega) rfl ?_; intro v1 w1 R1 HR' HM'; clear HM HR; have HM := HM'; have HR := HR'; clear HM' HR'; rw [← by8_append] at HR; all_goals skip)
    | (refine own_app Tryd.underlying24 HI.out HZ0.out HZ1.out HZ2.out rfl (by decide) HM HR (List.Sublist.refl _) rfl rfl rfl (Rd.own hM HM) (by8_one ms) (by simp only [List.length_append, by8_length, List.length_nil, List.length_replicate, List.length_take]; omega) rfl ?_; intro v1 w1 R1 HR' HM'; clear HM HR; have HM := HM'; have HR := HR'; clear HM' HR'; rw [← by8_append] at HR; all_goals skip)
    | (go_at_call 8; (first | (with_reducible refine (HN.out _ _ (Rd.own hR HM) (Tabs.own hT HM)).mono ?_) | (with_reducible refine (HN4.out _ _ (Rd.ofRow HR.out (fun e he => (HM.out.whole e he).2)) (Tabs.own hT HM)).mono ?_) | (with_reducible refine (HN5.out _ _ (Rd.ofRow HR.out (fun e he => (HM.out.whole e he).2)) (Tabs.own hT HM)).mono ?_)); rintro e w' ⟨rfl, hb⟩; have HM' := Lib.hid (HM.out.call hb); clear HM hb; have HM := HM'; clear HM')
    | ((with_reducible apply own_old HM); exact rfl; exact rfl; (with_reducible exact oneU8); (with_reducible exact c0); exact rfl; exact rfl; all_goals skip))
  go_ret
  exact ⟨rfl, Own.fin HM⟩
set_option maxRecDepth 100000 in
set_option maxHeartbeats 6400000 in
theorem ends_fd (bs ms : List Nat) (g o : Nat) (n c : Nat) (a2 : Option Addr) (m c2 : Nat) (hn : bs.length = n) (hm : ms.length = m) (h1 : n ≤ 40) (h2 : m ≤ 40) (hb8 : ∀ i, bs.getD i 0 < 256) (hm8 : ∀ i, ms.getD i 0 < 256) (x : Tx) (k : Nat) (hx : (cName bs).1 = x) (hk : (cName bs).2 = k) (hkn : k ≤ n) (hk1 : 1 ≤ k) (hnc : n ≤ c) (hk2 : k = 1) (h0 : bs.getD 0 0 = 253) (x5 : Tx) (k5 : Nat) (hx5 : (cName (bs.take k ++ ms)).1 = x5) (hk5 : (cName (bs.take k ++ ms)).2 = k5) (w : World) (hR0 : Rd w (.slice (some ⟨g, o, none⟩) n c) (by8 bs)) (hM0 : Rd w (.slice a2 m c2) (by8 ms)) (hTab : Tabs w) : Calls Tryd.prog 6 #[.slice (some ⟨g, o, none⟩) n c, .slice a2 m c2] w fun e w' => e = .returned (.bool true) ∧ Below w.heap.size w w' := by
  have hT : Hid (Tabs w) := hTab
  have hR : Hid (Rd w (.slice (some ⟨g, o, none⟩) n c) (by8 bs)) := hR0
  have hM : Hid (Rd w (.slice a2 m c2) (by8 ms)) := hM0
  have HN : Hid (∀ (v : Value) (w : World), Rd w v (by8 bs) → Tabs w → Calls Tryd.prog 8 #[v] w fun e w' => e = .returned (.tuple #[.string ⟨x.toArray⟩, .int .i64 (k : Int)]) ∧ Below w.heap.size w w') := by
    intro v w h1 h2
    have := name_at v bs (by omega) hb8 w h1 h2
    rw [hx, hk] at this
    exact this
  have HN4 : Hid (∀ (v : Value) (w : World), Rd w v (by8 ([] ++ bs ++ List.replicate 4 0)) → Tabs w → Calls Tryd.prog 8 #[v] w fun e w' => e = .returned (.tuple #[.string ⟨x.toArray⟩, .int .i64 (k : Int)]) ∧ Below w.heap.size w w') := by
    intro v w h1 h2
    have hp : ∀ i, ([] ++ bs ++ List.replicate 4 0).getD i 0 = bs.getD i 0 := fun i => by rw [List.nil_append]; exact getD_pad bs 4 i
    have := name_at v ([] ++ bs ++ List.replicate 4 0) (by simp only [List.length_append, List.length_nil, List.length_replicate]; omega) (fun i => by rw [hp]; exact hb8 i) w h1 h2
    rw [name_at_all bs _ hp, hx, hk] at this
    exact this
  have HN5 : Hid (∀ (v : Value) (w : World), Rd w v (by8 ([] ++ bs.take k ++ ms)) → Tabs w → Calls Tryd.prog 8 #[v] w fun e w' => e = .returned (.tuple #[.string ⟨x5.toArray⟩, .int .i64 (k5 : Int)]) ∧ Below w.heap.size w w') := by
    intro v w h1 h2
    have hp : ∀ i, ([] ++ bs.take k ++ ms).getD i 0 < 256 := fun i => by rw [List.nil_append]; exact getD_mix bs ms k hb8 hm8 i
    have := name_at v ([] ++ bs.take k ++ ms) (by simp only [List.length_append, List.length_nil, List.length_take]; omega) hp w h1 h2
    rw [List.nil_append] at this
    rw [hx5, hk5] at this
    rw [List.nil_append] at h1
    exact this
  have hRk : Hid (Rd w (.slice (some ⟨g, o, none⟩) k c) (by8 (bs.take k))) := rd_take k hR0 (by omega)
  have n40 : (n : Int) ≤ 40 := by omega
  have m40 : (m : Int) ≤ 40 := by omega
  have hl : bs.length ≤ 40 := by omega
  have hl2 : ms.length ≤ 40 := by omega
  have kn : (k : Int) ≤ (n : Int) := by omega
  have kc : (k : Int) ≤ (c : Int) := by omega
  have k0 : (0 : Int) ≤ (k : Int) := by omega
  have c0 : w.cell? ⟨g, o, none⟩ = some (.int .u8 ((253 : Nat) : Int)) := rd_head hR0 (by omega) (h0)
  have gk : ((k : Int) == 1) = true := by rw [beq_iff_eq]; omega
  clear hx5 hk5 h0 hk2
  clear hTab hR0 hM0 hx hk hn hm hb8 hm8
  obtain ⟨i0, hi, hz0, hz1, hz2⟩ := u8_parts
  have HI := Lib.hid hi
  have HZ0 := Lib.hid hz0
  have HZ1 := Lib.hid hz1
  have HZ2 := Lib.hid hz2
  clear hi hz0 hz1 hz2
  have HM := Lib.hid (Own.start w)
  have tg1 : Hid True := trivial
  have tg2 : Hid True := trivial
  go_enter Tryd.func6, Tryd.ntmps6
  go_wp2_with (first
    | (go_at_call 9; (with_reducible refine (alive_any _ (Tabs.own hT HM)).mono ?_); rintro e w' ⟨rfl, hb⟩; have HM' := Lib.hid (HM.out.call hb); clear HM hb; have HM := HM'; clear HM')
    | ((with_reducible apply own_made (cs := []) (e := 5) (n := 0) HM); exact rfl; exact madeB0; (focus (go_simp; done)); exact rfl; (first | (clear tg1; intro w' g1 HM'; clear HM; have HM := HM'; clear HM'; have HR : Hid (RowIs 5 [(g1, 5, [])] (.slice (some ⟨g1, 0, none⟩) 0 0) (by8 [])) := RowIs.made) | (clear tg2; clear HR; intro w' g2 HM'; clear HM; have HM := HM'; clear HM'; have HR : Hid (RowIs 5 [(g2, 5, [])] (.slice (some ⟨g2, 0, none⟩) 0 0) (by8 [])) := RowIs.made)); all_goals skip)
    | (refine own_app Tryd.underlying24 HI.out HZ0.out HZ1.out HZ2.out rfl (by decide) HM HR (List.Sublist.cons_cons _ (List.nil_sublist _)) rfl rfl rfl (Rd.own hR HM) (by8_one bs) (by simp only [List.length_append, by8_length, List.length_nil, List.length_replicate, List.length_take]; omega) rfl ?_; intro v1 w1 R1 HR' HM'; clear HM HR; have HM := HM'; have HR := HR'; clear HM' HR'; rw [← by8_append] at HR; all_goals skip)
    | ((with_reducible apply own_made (cs := by8 (List.replicate 4 0)) (e := 5) (n := 4) HM); exact rfl; exact madeB4; (focus (go_simp; done)); exact rfl; intro w' g4 HM'; clear HM; have HM := HM'; clear HM'; all_goals skip)
    | (refine own_app Tryd.underlying24 HI.out HZ0.out HZ1.out HZ2.out rfl (by decide) HM HR (List.sublist_cons_self _ _) rfl rfl rfl (Rd.ofWhole (HM.out.at_ .z) rfl) (by8_one (List.replicate 4 0)) (by simp only [List.length_append, by8_length, List.length_nil, List.length_replicate, List.length_take]; omega) rfl ?_; intro v1 w1 R1 HR' HM'; clear HM HR; have HM := HM'; have HR := HR'; clear HM' HR'; rw [← by8_append] at HR; all_goals skip)
    | (refine own_app Tryd.underlying24 HI.out HZ0.out HZ1.out HZ2.out rfl (by decide) HM HR (List.Sublist.cons_cons _ (List.nil_sublist _)) rfl rfl rfl (Rd.own hRk HM) (by8_one (bs.take k)) (by simp only [List.length_append, by8_length, List.length_nil, List.length_replicate, List.length_take]; omega) rfl ?_; intro v1 w1 R1 HR' HM'; clear HM HR; have HM := HM'; have HR := HR'; clear HM' HR'; rw [← by8_append] at HR; all_goals skip)
    | (refine own_app Tryd.underlying24 HI.out HZ0.out HZ1.out HZ2.out rfl (by decide) HM HR (List.Sublist.refl _) rfl rfl rfl (Rd.own hM HM) (by8_one ms) (by simp only [List.length_append, by8_length, List.length_nil, List.length_replicate, List.length_take]; omega) rfl ?_; intro v1 w1 R1 HR' HM'; clear HM HR; have HM := HM'; have HR := HR'; clear HM' HR'; rw [← by8_append] at HR; all_goals skip)
    | (go_at_call 8; (first | (with_reducible refine (HN.out _ _ (Rd.own hR HM) (Tabs.own hT HM)).mono ?_) | (with_reducible refine (HN4.out _ _ (Rd.ofRow HR.out (fun e he => (HM.out.whole e he).2)) (Tabs.own hT HM)).mono ?_) | (with_reducible refine (HN5.out _ _ (Rd.ofRow HR.out (fun e he => (HM.out.whole e he).2)) (Tabs.own hT HM)).mono ?_)); rintro e w' ⟨rfl, hb⟩; have HM' := Lib.hid (HM.out.call hb); clear HM hb; have HM := HM'; clear HM')
    | ((with_reducible apply own_old HM); exact rfl; exact rfl; (with_reducible exact oneU8); (with_reducible exact c0); exact rfl; exact rfl; all_goals skip))
  go_ret
  exact ⟨rfl, Own.fin HM⟩
set_option maxRecDepth 100000 in
set_option maxHeartbeats 6400000 in
theorem ends_one (bs ms : List Nat) (g o : Nat) (n c : Nat) (a2 : Option Addr) (m c2 : Nat) (hn : bs.length = n) (hm : ms.length = m) (h1 : n ≤ 40) (h2 : m ≤ 40) (hb8 : ∀ i, bs.getD i 0 < 256) (hm8 : ∀ i, ms.getD i 0 < 256) (x : Tx) (k : Nat) (hx : (cName bs).1 = x) (hk : (cName bs).2 = k) (hkn : k ≤ n) (hk1 : 1 ≤ k) (hnc : n ≤ c) (hk2 : k = 1) (b : Nat) (h0 : bs.getD 0 0 = b) (hd : b ≠ 221) (hf : b ≠ 253) (hsame : cName (bs.take k ++ ms) = cName bs) (w : World) (hR0 : Rd w (.slice (some ⟨g, o, none⟩) n c) (by8 bs)) (hM0 : Rd w (.slice a2 m c2) (by8 ms)) (hTab : Tabs w) : Calls Tryd.prog 6 #[.slice (some ⟨g, o, none⟩) n c, .slice a2 m c2] w fun e w' => e = .returned (.bool true) ∧ Below w.heap.size w w' := by
  have hT : Hid (Tabs w) := hTab
  have hR : Hid (Rd w (.slice (some ⟨g, o, none⟩) n c) (by8 bs)) := hR0
  have hM : Hid (Rd w (.slice a2 m c2) (by8 ms)) := hM0
  have HN : Hid (∀ (v : Value) (w : World), Rd w v (by8 bs) → Tabs w → Calls Tryd.prog 8 #[v] w fun e w' => e = .returned (.tuple #[.string ⟨x.toArray⟩, .int .i64 (k : Int)]) ∧ Below w.heap.size w w') := by
    intro v w h1 h2
    have := name_at v bs (by omega) hb8 w h1 h2
    rw [hx, hk] at this
    exact this
  have HN4 : Hid (∀ (v : Value) (w : World), Rd w v (by8 ([] ++ bs ++ List.replicate 4 0)) → Tabs w → Calls Tryd.prog 8 #[v] w fun e w' => e = .returned (.tuple #[.string ⟨x.toArray⟩, .int .i64 (k : Int)]) ∧ Below w.heap.size w w') := by
    intro v w h1 h2
    have hp : ∀ i, ([] ++ bs ++ List.replicate 4 0).getD i 0 = bs.getD i 0 := fun i => by rw [List.nil_append]; exact getD_pad bs 4 i
    have := name_at v ([] ++ bs ++ List.replicate 4 0) (by simp only [List.length_append, List.length_nil, List.length_replicate]; omega) (fun i => by rw [hp]; exact hb8 i) w h1 h2
    rw [name_at_all bs _ hp, hx, hk] at this
    exact this
  have HN5 : Hid (∀ (v : Value) (w : World), Rd w v (by8 ([] ++ bs.take k ++ ms)) → Tabs w → Calls Tryd.prog 8 #[v] w fun e w' => e = .returned (.tuple #[.string ⟨x.toArray⟩, .int .i64 (k : Int)]) ∧ Below w.heap.size w w') := by
    intro v w h1 h2
    have hp : ∀ i, ([] ++ bs.take k ++ ms).getD i 0 < 256 := fun i => by rw [List.nil_append]; exact getD_mix bs ms k hb8 hm8 i
    have := name_at v ([] ++ bs.take k ++ ms) (by simp only [List.length_append, List.length_nil, List.length_take]; omega) hp w h1 h2
    rw [List.nil_append] at this
    rw [hsame, hx, hk] at this
    rw [List.nil_append] at h1
    exact this
  have hRk : Hid (Rd w (.slice (some ⟨g, o, none⟩) k c) (by8 (bs.take k))) := rd_take k hR0 (by omega)
  have n40 : (n : Int) ≤ 40 := by omega
  have m40 : (m : Int) ≤ 40 := by omega
  have hl : bs.length ≤ 40 := by omega
  have hl2 : ms.length ≤ 40 := by omega
  have kn : (k : Int) ≤ (n : Int) := by omega
  have kc : (k : Int) ≤ (c : Int) := by omega
  have k0 : (0 : Int) ≤ (k : Int) := by omega
  have c0 : w.cell? ⟨g, o, none⟩ = some (.int .u8 (b : Int)) := rd_head hR0 (by omega) (h0)
  have gk : ((k : Int) == 1) = true := by rw [beq_iff_eq]; omega
  have gd : ((b : Int) == 221) = false := by rw [beq_eq_false_iff_ne]; omega
  have gf : ((b : Int) == 253) = false := by rw [beq_eq_false_iff_ne]; omega
  clear hsame h0 hk2 hd hf
  clear hTab hR0 hM0 hx hk hn hm hb8 hm8
  obtain ⟨i0, hi, hz0, hz1, hz2⟩ := u8_parts
  have HI := Lib.hid hi
  have HZ0 := Lib.hid hz0
  have HZ1 := Lib.hid hz1
  have HZ2 := Lib.hid hz2
  clear hi hz0 hz1 hz2
  have HM := Lib.hid (Own.start w)
  have tg1 : Hid True := trivial
  have tg2 : Hid True := trivial
  go_enter Tryd.func6, Tryd.ntmps6
  go_wp2_with (first
    | (go_at_call 9; (with_reducible refine (alive_any _ (Tabs.own hT HM)).mono ?_); rintro e w' ⟨rfl, hb⟩; have HM' := Lib.hid (HM.out.call hb); clear HM hb; have HM := HM'; clear HM')
    | ((with_reducible apply own_made (cs := []) (e := 5) (n := 0) HM); exact rfl; exact madeB0; (focus (go_simp; done)); exact rfl; (first | (clear tg1; intro w' g1 HM'; clear HM; have HM := HM'; clear HM'; have HR : Hid (RowIs 5 [(g1, 5, [])] (.slice (some ⟨g1, 0, none⟩) 0 0) (by8 [])) := RowIs.made) | (clear tg2; clear HR; intro w' g2 HM'; clear HM; have HM := HM'; clear HM'; have HR : Hid (RowIs 5 [(g2, 5, [])] (.slice (some ⟨g2, 0, none⟩) 0 0) (by8 [])) := RowIs.made)); all_goals skip)
    | (refine own_app Tryd.underlying24 HI.out HZ0.out HZ1.out HZ2.out rfl (by decide) HM HR (List.Sublist.cons_cons _ (List.nil_sublist _)) rfl rfl rfl (Rd.own hR HM) (by8_one bs) (by simp only [List.length_append, by8_length, List.length_nil, List.length_replicate, List.length_take]; omega) rfl ?_; intro v1 w1 R1 HR' HM'; clear HM HR; have HM := HM'; have HR := HR'; clear HM' HR'; rw [← by8_append] at HR; all_goals skip)
    | ((with_reducible apply own_made (cs := by8 (List.replicate 4 0)) (e := 5) (n := 4) HM); exact rfl; exact madeB4; (focus (go_simp; done)); exact rfl; intro w' g4 HM'; clear HM; have HM := HM'; clear HM'; all_goals skip)
    | (refine own_app Tryd.underlying24 HI.out HZ0.out HZ1.out HZ2.out rfl (by decide) HM HR (List.sublist_cons_self _ _) rfl rfl rfl (Rd.ofWhole (HM.out.at_ .z) rfl) (by8_one (List.replicate 4 0)) (by simp only [List.length_append, by8_length, List.length_nil, List.length_replicate, List.length_take]; omega) rfl ?_; intro v1 w1 R1 HR' HM'; clear HM HR; have HM := HM'; have HR := HR'; clear HM' HR'; rw [← by8_append] at HR; all_goals skip)
    | (refine own_app Tryd.underlying24 HI.out HZ0.out HZ1.out HZ2.out rfl (by decide) HM HR (List.Sublist.cons_cons _ (List.nil_sublist _)) rfl rfl rfl (Rd.own hRk HM) (by8_one (bs.take k)) (by simp only [List.length_append, by8_length, List.length_nil, List.length_replicate, List.length_take]; omega) rfl ?_; intro v1 w1 R1 HR' HM'; clear HM HR; have HM := HM'; have HR := HR'; clear HM' HR'; rw [← by8_append] at HR; all_goals skip)
    | (refine own_app Tryd.underlying24 HI.out HZ0.out HZ1.out HZ2.out rfl (by decide) HM HR (List.Sublist.refl _) rfl rfl rfl (Rd.own hM HM) (by8_one ms) (by simp only [List.length_append, by8_length, List.length_nil, List.length_replicate, List.length_take]; omega) rfl ?_; intro v1 w1 R1 HR' HM'; clear HM HR; have HM := HM'; have HR := HR'; clear HM' HR'; rw [← by8_append] at HR; all_goals skip)
    | (go_at_call 8; (first | (with_reducible refine (HN.out _ _ (Rd.own hR HM) (Tabs.own hT HM)).mono ?_) | (with_reducible refine (HN4.out _ _ (Rd.ofRow HR.out (fun e he => (HM.out.whole e he).2)) (Tabs.own hT HM)).mono ?_) | (with_reducible refine (HN5.out _ _ (Rd.ofRow HR.out (fun e he => (HM.out.whole e he).2)) (Tabs.own hT HM)).mono ?_)); rintro e w' ⟨rfl, hb⟩; have HM' := Lib.hid (HM.out.call hb); clear HM hb; have HM := HM'; clear HM')
    | ((with_reducible apply own_old HM); exact rfl; exact rfl; (with_reducible exact oneU8); (with_reducible exact c0); exact rfl; exact rfl; all_goals skip))
  go_ret
  exact ⟨rfl, Own.fin HM⟩
theorem ends_any (bs ms : List Nat) (v u : Value) (a a2 : Option Addr) (c c2 : Nat) (hv : v = .slice a bs.length c) (hu : u = .slice a2 ms.length c2) (hnc : bs.length ≤ c) (hb8 : ∀ i, bs.getD i 0 < 256) (hm8 : ∀ i, ms.getD i 0 < 256) (w : World) (hR : Rd w v (by8 bs)) (hM : Rd w u (by8 ms)) (hT : Tabs w) :
    Calls Tryd.prog 6 #[v, u] w fun e w' => e = .returned (.bool true) ∧ Below w.heap.size w w' := by
  subst hv hu
  by_cases h1 : 40 < bs.length
  · exact ends_longA a a2 _ c _ c2 h1 w hT
  · by_cases h2 : 40 < ms.length
    · exact ends_longB a a2 _ c _ c2 (by omega) h2 w hT
    · by_cases hk : bs.length < (cName bs).2
      · exact ends_cut bs ms a _ c a2 _ c2 rfl rfl (by omega) (by omega) hb8 hm8 _ _ rfl rfl hk w hR hM hT
      · have lim := name_len bs hb8
        have hk : (cName bs).2 ≤ bs.length := by omega
        have hsl : ∃ g o, a = some ⟨g, o, none⟩ := by
          rcases hR with ⟨hv, hb⟩ | ⟨ad, cap, hv, hb⟩ | ⟨g, o, cap, hv, -⟩
          · have : bs = [] := by simpa [by8] using hb
            have hl0 : bs.length = 0 := by rw [this]; rfl
            omega
          · have : bs = [] := by simpa [by8] using hb
            have hl0 : bs.length = 0 := by rw [this]; rfl
            omega
          · injection hv with h1 h2 h3
            exact ⟨g, o, h1⟩
        obtain ⟨g, o, rfl⟩ := hsl
        have hs := name_ends bs (bs.take (cName bs).2 ++ ms) hb8 (getD_mix bs ms _ hb8 hm8) (fun i hi => getD_same bs ms _ hk i hi)
        have dd : (cName bs).2 = 1 → bs.getD 0 0 = 221 → Calls Tryd.prog 6 #[.slice (some ⟨g, o, none⟩) bs.length c, .slice a2 ms.length c2] w fun e w' => e = .returned (.bool true) ∧ Below w.heap.size w w' :=
          fun e1 e2 => ends_dd bs ms g o _ c a2 _ c2 rfl rfl (by omega) (by omega) hb8 hm8 _ _ rfl rfl hk lim.1 hnc e1 e2 _ _ rfl rfl w hR hM hT
        have fd : (cName bs).2 = 1 → bs.getD 0 0 = 253 → Calls Tryd.prog 6 #[.slice (some ⟨g, o, none⟩) bs.length c, .slice a2 ms.length c2] w fun e w' => e = .returned (.bool true) ∧ Below w.heap.size w w' :=
          fun e1 e2 => ends_fd bs ms g o _ c a2 _ c2 rfl rfl (by omega) (by omega) hb8 hm8 _ _ rfl rfl hk lim.1 hnc e1 e2 _ _ rfl rfl w hR hM hT
        rcases hs with ⟨e1, e2 | e2⟩ | hs
        · exact dd e1 e2
        · exact fd e1 e2
        · by_cases e1 : (cName bs).2 = 1
          · by_cases e2 : bs.getD 0 0 = 221
            · exact dd e1 e2
            · by_cases e3 : bs.getD 0 0 = 253
              · exact fd e1 e3
              · exact ends_one bs ms g o _ c a2 _ c2 rfl rfl (by omega) (by omega) hb8 hm8 _ _ rfl rfl hk lim.1 hnc e1 _ rfl e2 e3 hs w hR hM hT
          · exact ends_many bs ms g o _ c a2 _ c2 rfl rfl (by omega) (by omega) hb8 hm8 _ _ rfl rfl hk lim.1 hnc e1 hs w hR hM hT
end Go.Proofs.YtaiceidmcelapaaDoor
