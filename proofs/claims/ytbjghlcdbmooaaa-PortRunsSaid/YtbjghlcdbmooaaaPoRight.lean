/-
  Can bytes be a port's? And a copy of a slice.
-/
import Derived.Test.YtbjghlcdbmooaaaPoDump0
import Derived.Deep.Cut
import Derived.Deep.CutRange
namespace Go.Proofs.Ytbjghlcdbmooaaa
open Go.RowKit

set_option maxRecDepth 100000 in
set_option maxHeartbeats 1600000 in
theorem clone_at {W0 w : World} {l : Blks} {gm off m : Nat} {t : TypeId} {cs us : List Value} (h : Hid (Own W0 w l)) (hsel : Sel l gm t cs) (hus : ∀ (j : Nat) (u : Value), us[j]? = some u → cs[off + j]? = some u) (h1 : ∀ u ∈ us, u.oneCell' = true) (hl : us.length = m) (hm : 0 < m) (hn : m ≤ 1000000) :
    Calls Try.prog 32 #[.slice (some ⟨gm, off, none⟩) m m] w fun e w' => ∃ g cap ex, e = .returned (.slice (some ⟨g, 0, none⟩) m cap) ∧ Hid (Own W0 w' ((g, 5, us ++ ex) :: l)) := by
  have HM := h
  have hsel2 : ∀ q : Nat × TypeId × List Value, Sel (q :: l) gm t cs := fun q => .s hsel
  have hnil : ∀ w, (binOp .eql 25 (.slice (some ⟨gm, off, none⟩) m m) (.slice none 0 0)).run Try.prog w = .ok (.bool false) w := fun _ => by kernel_rfl
  have HU := Lib.hid hus
  have H1 := Lib.hid h1
  have HL := Lib.hid hl
  have HN := Lib.hid hn
  have HP := Lib.hid hm
  clear h hus h1 hl hn
  go_enter Try.func32, Try.ntmps32
  go_wp2_with (first
    | ((with_reducible apply own_made (cs := []) (e := 5) (n := 0) HM); exact rfl; exact made_none; (focus (go_simp; done)); exact rfl; intro w2 g2 HM'; have HR0 := Lib.hid (row_nil (g := g2) (cs := []) (n := 0) rfl (by decide)); have HS := hsel2 (g2, 5, []); clear HM; have HM := HM'; clear HM'; all_goals skip)
    | ((with_reducible refine own_joins (L := l) HM (List.perm_append_singleton _ _).symm HR0.out HS rfl rfl rfl HU.out H1.out HL.out HP.out (by rw [Nat.zero_add]; exact HN.out) rfl ?_); intro g3 c3 w3 R3 HR3 HM3; simp only [Nat.zero_add, List.nil_append] at HR3; clear HM HR0))
  go_ret
  obtain ⟨hl', ⟨-, -, h0⟩ | ⟨g, cap, cur, rfl, hv, k1, k2, k3, k4⟩⟩ := HR3
  · have := HP.out; omega
  · injection hv with hv1 _ hv2
    injection hv1 with hv1
    injection hv1 with hv1
    subst hv1 hv2
    refine ⟨g3, c3, cur.drop m, rfl, Lib.hid ?_⟩
    have e : us ++ cur.drop m = cur := by rw [← k4, Nat.mul_one, List.take_append_drop]
    rw [e]
    exact HM3.out.perm (List.perm_append_singleton _ _)

theorem over_at (x : Nat) (hx : x < 256) (w : World) : Calls Try.prog 33 #[.int .u8 (x : Int)] w fun e w' => e = .returned (.bool (decide (63 < x))) ∧ w = w' := by
  by_cases h : (63 : Int) < (x : Int)
  · have e : decide (63 < x) = true := by rw [decide_eq_true_eq]; omega
    rw [e]
    go_enter Try.func33, Try.ntmps33
    go_wp2
    go_ret
    exact ⟨rfl, rfl⟩
  · have e : decide (63 < x) = false := by rw [decide_eq_false_iff_not]; omega
    rw [e]
    go_enter Try.func33, Try.ntmps33
    go_wp2
    go_ret
    exact ⟨rfl, rfl⟩

set_option maxRecDepth 100000 in
set_option maxHeartbeats 1600000 in
theorem index_at (g o n cap : Nat) (xs : List Nat) (hn : n = xs.length) (hn1 : n ≤ 100) (h8 : Lt 256 xs) (w : World) (hc : ∀ i, i < n → w.cell? ⟨g, o + i, none⟩ = some (.int .u8 ((xs.getD i 0 : Nat) : Int))) :
    Calls Try.prog 35 #[.slice (some ⟨g, o, none⟩) n cap, .func (.func 33) #[] #[]] w fun e w' => ∃ k : Int, e = .returned (.int .i64 k) ∧ w = w' ∧ ((k = -1 ∧ Lt 64 xs) ∨ (0 ≤ k ∧ k < 100 ∧ ¬ Lt 64 xs)) := by
  have HC := Lib.hid hc
  have H8 := Lib.hid h8
  have HN := Lib.hid hn
  clear hc h8 hn
  go_enter Try.func35, Try.ntmps35
  go_wp2
  go_loopw [8] (fun at_ wr => ∃ (k : Nat), k ≤ n ∧ at_ = .int .i64 (k : Int) ∧ Hid (∀ i, i < k → xs.getD i 0 < 64) ∧ w = wr) (fun at_ _ => n - (intOf at_).toNat)
  case atStart => exact ⟨0, by omega, rfl, fun i hi => by omega, rfl⟩
  case round =>
    obtain ⟨k, hk, rfl, HK, rfl⟩ := hrel
    by_cases hlt : k < n
    · have hlt2 : (k : Int) < (n : Int) := by omega
      obtain ⟨x, hx⟩ : ∃ x, Hid (xs.getD k 0 = x) := ⟨_, rfl⟩
      have x1 : x < 256 := by rw [← hx.out]; exact H8.out.getD (by decide) _
      have hck := HC.out k hlt
      rw [hx.out] at hck
      by_cases h63 : 63 < x
      · have e : decide (63 < x) = true := by rw [decide_eq_true_eq]; exact h63
        go_wp2_with (go_at_call 33; (with_reducible refine (over_at x x1 _).mono ?_); rw [e]; rintro e w' ⟨rfl, rfl⟩)
        go_ret
        refine ⟨_, rfl, rfl, .inr ⟨by omega, by omega, fun hL => ?_⟩⟩
        have := hL.getD (by decide) k
        rw [hx.out] at this
        omega
      · have e : decide (63 < x) = false := by rw [decide_eq_false_iff_not]; exact h63
        have HK2 : Hid (∀ i, i < k + 1 → xs.getD i 0 < 64) := by
          intro i hi
          by_cases hik : i = k
          · rw [hik, hx.out]; omega
          · exact HK.out i (by omega)
        go_wp2_with (go_at_call 33; (with_reducible refine (over_at x x1 _).mono ?_); rw [e]; rintro e w' ⟨rfl, rfl⟩)
        go_roundw
        case rel => exact ⟨k + 1, by omega, by go_num, HK2, trivial⟩
        case measure => simp [intOf]; omega
    · have hlt2 : ¬ (k : Int) < (n : Int) := by omega
      have hkn : k = n := by omega
      have HL : Hid (Lt 64 xs) := by
        intro x hx
        obtain ⟨i, hi, rfl⟩ := List.getElem_of_mem hx
        have := HK.out i (by rw [hkn, HN.out]; exact hi)
        simpa [List.getD_eq_getElem?_getD, hi] using this
      clear hkn
      go_wp2
      go_ret
      exact ⟨_, rfl, rfl, .inl ⟨rfl, HL.out⟩⟩

theorem contains_at (g o n cap : Nat) (xs : List Nat) (hn : n = xs.length) (hn1 : n ≤ 100) (h8 : Lt 256 xs) (b : Bool) (hb : Hid (b = true ↔ ¬ Lt 64 xs)) (w : World) (hc : ∀ i, i < n → w.cell? ⟨g, o + i, none⟩ = some (.int .u8 ((xs.getD i 0 : Nat) : Int))) :
    Calls Try.prog 34 #[.slice (some ⟨g, o, none⟩) n cap, .func (.func 33) #[] #[]] w fun e w' => e = .returned (.bool b) ∧ w = w' := by
  have HC := Lib.hid hc
  have H8 := Lib.hid h8
  have HN := Lib.hid hn
  clear hc h8 hn
  go_enter Try.func34, Try.ntmps34
  go_wp2_with (go_at_call 35; (with_reducible refine (index_at g o n cap xs HN.out hn1 H8.out _ HC.out).mono ?_); rintro e w' ⟨k, rfl, rfl, hk⟩; have HK := Lib.hid hk; clear hk)
  go_ret
  refine ⟨?_, rfl⟩
  show Ending.returned (.bool (decide (0 ≤ k))) = _
  have e : decide (0 ≤ k) = b := by
    have h1 := hb.out
    rcases HK.out with ⟨rfl, h2⟩ | ⟨h3, _, h2⟩
    · cases b
      · rfl
      · exact absurd h2 (h1.1 rfl)
    · rw [decide_eq_true h3]; exact (h1.2 h2).symm
  rw [e]

/-- the bytes, as they lie in a block -/
theorem bytes_at {W0 w : World} {l : Blks} {gd : Nat} {ds : List Nat} {ex : List Value} (h : Own W0 w l) (hsel : Sel l gd 5 (n8 ds ++ ex)) (i : Nat) (hi : i < ds.length) : w.cell? ⟨gd, i, none⟩ = some (.int .u8 ((ds.getD i 0 : Nat) : Int)) := by
  rw [(h.at_ hsel).at_, List.getElem?_append_left (by simpa using hi), n8_get _ _ hi]

set_option maxRecDepth 100000 in
set_option maxHeartbeats 1600000 in
theorem right_at {W0 w : World} {l : Blks} {gd cap : Nat} {ds : List Nat} {ex : List Value} (h : Hid (Own W0 w l)) (hsel : Sel l gd 5 (n8 ds ++ ex)) (hl : ds.length = 16433) (hcap : 16433 ≤ cap) (h8 : Lt 256 ds) (b : Bool) (hb : Hid (b = true ↔ Pt.Right ds)) :
    Calls Try.prog 27 #[.slice (some ⟨gd, 0, none⟩) 16433 cap] w fun e w' => e = .returned (.bool b) ∧ w = w' := by
  have hbytes := bytes_at h.out hsel
  obtain ⟨x1, e1⟩ : ∃ x, ds.getD 16428 0 = x := ⟨_, rfl⟩
  obtain ⟨x2, e2⟩ : ∃ x, ds.getD 16429 0 = x := ⟨_, rfl⟩
  obtain ⟨x3, e3⟩ : ∃ x, ds.getD 16431 0 = x := ⟨_, rfl⟩
  have c1 : w.cell? ⟨gd, 16428, none⟩ = some (.int .u8 (x1 : Int)) := by rw [hbytes 16428 (by omega), e1]
  have c2 : w.cell? ⟨gd, 16429, none⟩ = some (.int .u8 (x2 : Int)) := by rw [hbytes 16429 (by omega), e2]
  have c3 : w.cell? ⟨gd, 16431, none⟩ = some (.int .u8 (x3 : Int)) := by rw [hbytes 16431 (by omega), e3]
  obtain ⟨xs, hxs⟩ : ∃ xs, (ds.drop 16384).take 32 = xs := ⟨_, rfl⟩
  have hxl : xs.length = 32 := by rw [← hxs]; simp [hl]
  have hx8 : Lt 256 xs := by rw [← hxs]; exact (h8.drop _).take _
  have HXC : Hid (∀ i, i < 32 → w.cell? ⟨gd, 16384 + i, none⟩ = some (.int .u8 ((xs.getD i 0 : Nat) : Int))) := by
    intro i hi
    rw [hbytes (16384 + i) (by omega), ← hxs]
    simp [List.getD_eq_getElem?_getD, hi]
  obtain ⟨q, hq⟩ : ∃ q : Bool, Hid (q = true ↔ ¬ Lt 64 xs) := by
    by_cases hL : Lt 64 xs
    · exact ⟨false, by show _ ↔ _; simp [hL]⟩
    · exact ⟨true, by show _ ↔ _; simp [hL]⟩
  have HB : Hid (b = true ↔ (Lt 64 xs ∧ x1 < 64 ∧ x2 < 4 ∧ x3 < 2)) := by
    have := hb.out
    unfold Pt.Right at this
    rw [e1, e2, e3, hxs] at this
    exact ⟨fun h => (this.1 h).2, fun h => this.2 ⟨hl, h⟩⟩
  have HL := Lib.hid hxl
  have H8 := Lib.hid hx8
  have hc16 : ¬ cap = 16384 := by omega
  clear h hsel hl h8 hb hbytes e1 e2 e3 hxs hxl hx8
  by_cases hL : Lt 64 xs
  · have hqf : q = false := by
      cases q
      · rfl
      · exact absurd hL (hq.out.1 rfl)
    have HL2 := Lib.hid hL
    clear hL
    by_cases k1 : (x1 : Int) ≤ 63
    · by_cases k2 : (x2 : Int) ≤ 3
      · by_cases k3 : (x3 : Int) ≤ 1
        · have hbt : b = true := HB.out.2 ⟨HL2.out, by omega, by omega, by omega⟩
          rw [hbt]
          subst hqf
          clear hbt HB
          go_enter Try.func27, Try.ntmps27
          go_wp2_with (go_at_call 34; (with_reducible refine (contains_at gd 16384 32 _ xs HL.out.symm (by decide) H8.out _ hq _ HXC.out).mono ?_); rintro e w' ⟨rfl, rfl⟩)
          go_ret
          exact ⟨rfl, rfl⟩
        · have hbt : b = false := by
            cases b
            · rfl
            · have := HB.out.1 rfl; omega
          rw [hbt]
          subst hqf
          clear hbt HB
          go_enter Try.func27, Try.ntmps27
          go_wp2_with (go_at_call 34; (with_reducible refine (contains_at gd 16384 32 _ xs HL.out.symm (by decide) H8.out _ hq _ HXC.out).mono ?_); rintro e w' ⟨rfl, rfl⟩)
          go_ret
          refine ⟨?_, rfl⟩
          show Ending.returned (.bool (decide ((x3 : Int) ≤ 1))) = _
          rw [decide_eq_false (by omega : ¬ (x3 : Int) ≤ 1)]
      · have hbt : b = false := by
          cases b
          · rfl
          · have := HB.out.1 rfl; omega
        rw [hbt]
        subst hqf
        clear hbt HB
        go_enter Try.func27, Try.ntmps27
        go_wp2_with (go_at_call 34; (with_reducible refine (contains_at gd 16384 32 _ xs HL.out.symm (by decide) H8.out _ hq _ HXC.out).mono ?_); rintro e w' ⟨rfl, rfl⟩)
        go_ret
        exact ⟨rfl, rfl⟩
    · have hbt : b = false := by
        cases b
        · rfl
        · have := HB.out.1 rfl; omega
      rw [hbt]
      subst hqf
      clear hbt HB
      go_enter Try.func27, Try.ntmps27
      go_wp2_with (go_at_call 34; (with_reducible refine (contains_at gd 16384 32 _ xs HL.out.symm (by decide) H8.out _ hq _ HXC.out).mono ?_); rintro e w' ⟨rfl, rfl⟩)
      go_ret
      exact ⟨rfl, rfl⟩
  · have hqt : q = true := hq.out.2 hL
    have hbt : b = false := by
      cases b
      · rfl
      · exact absurd (HB.out.1 rfl).1 hL
    rw [hbt]
    subst hqt
    clear hbt HB hL
    go_enter Try.func27, Try.ntmps27
    go_wp2_with (go_at_call 34; (with_reducible refine (contains_at gd 16384 32 _ xs HL.out.symm (by decide) H8.out _ hq _ HXC.out).mono ?_); rintro e w' ⟨rfl, rfl⟩)
    go_ret
    exact ⟨rfl, rfl⟩

end Go.Proofs.Ytbjghlcdbmooaaa
