/-
  What stands at the beginning of any bytes.
-/
import Derived.Test.YtaiceidmcelapaaDoorNamAll
set_option linter.unusedSimpArgs false
set_option linter.unusedVariables false
namespace Go.Proofs.YtaiceidmcelapaaDoor
open Go.RowKit

theorem conv_any {w : World} {v : Value} {bs : List Nat} (h : Rd w v (by8 bs)) : (convert 24 9 v).run Tryd.prog w = .ok (.string ⟨(bs.map UInt8.ofNat).toArray⟩) w := by
  rcases h with ⟨rfl, hb⟩ | ⟨ad, cap, rfl, hb⟩ | ⟨g, o, cap, rfl, hg, hc⟩
  · have hb' : bs = [] := by simpa [by8] using hb
    subst hb'
    rw [run_convert_bytes_nil w 24 5 Tryd.underlying24 Tryd.underlying5 0 0 9 Tryd.underlying9]
    rfl
  · have hb' : bs = [] := by simpa [by8] using hb
    subst hb'
    rw [run_convert_bytes_string w _ _ 5 _ 0 cap Tryd.underlying24 Tryd.underlying5 Tryd.underlying9]
    simp [Conv.bytesToString, loadCells]
    rfl
  · rw [by8_length]
    have h := run_convert_bytes_arg (P := Tryd.prog) w 24 5 Tryd.underlying24 Tryd.underlying5 g o bs.length cap (bs.map fun b : Nat => (b : Int)) (by simp) (fun i hi => by
      rw [hc i _ (by8_get bs i hi)]
      simp [List.getD_eq_getElem?_getD, hi]) 9 Tryd.underlying9
    rw [h]
    simp [strOfNums, Function.comp_def]
set_option maxRecDepth 100000 in
set_option maxHeartbeats 6400000 in
theorem reads_long (a : Option Addr) (n c : Nat) (hn : 40 < n) (w : World) (hTab : Tabs w) : Calls Tryd.prog 5 #[.slice a n c] w fun e w' => e = .returned (.bool true) ∧ Below w.heap.size w w' := by
  have hT : Hid (Tabs w) := hTab
  clear hTab
  have hn2 : (40 : Int) < (n : Int) := by omega
  have HM := Lib.hid (Own.start w)
  go_enter Tryd.func5, Tryd.ntmps5
  go_wp2_with (first
    | (go_at_call 9; (with_reducible refine (alive_any _ (Tabs.own hT HM)).mono ?_); rintro e w' ⟨rfl, hb⟩; have HM' := Lib.hid (HM.out.call hb); clear HM hb; have HM := HM'; clear HM'))
  go_ret
  exact ⟨rfl, Own.fin HM⟩
set_option maxRecDepth 100000 in
set_option maxHeartbeats 6400000 in
theorem reads_short (bs : List Nat) (a : Option Addr) (n c : Nat) (hn : bs.length = n) (hn40 : n ≤ 40) (hb8 : ∀ i, bs.getD i 0 < 256) (w : World) (hR0 : Rd w (.slice a n c) (by8 bs)) (hTab : Tabs w) : Calls Tryd.prog 5 #[.slice a n c] w fun e w' => e = .returned (.bool true) ∧ Below w.heap.size w w' := by
  have hT : Hid (Tabs w) := hTab
  have hR : Hid (Rd w (.slice a n c) (by8 bs)) := hR0
  have HN : Hid (∀ (v : Value) (w : World), Rd w v (by8 bs) → Tabs w → Calls Tryd.prog 8 #[v] w fun e w' => e = .returned (.tuple #[.string ⟨(cName bs).1.toArray⟩, .int .i64 ((cName bs).2 : Int)]) ∧ Below w.heap.size w w') :=
    fun v w h1 h2 => name_at v bs (by omega) hb8 w h1 h2
  have HRN : Hid (∀ (v : Value) (w : World), Rd w v (by8 bs) → Calls Tryd.prog 12 #[v] w fun e w' => e = .returned (.tuple #[.string ⟨(rName bs).1.toArray⟩, .int .i64 ((rName bs).2 : Int)]) ∧ Below w.heap.size w w') :=
    fun v w h1 => rname_at v bs (by omega) hb8 w h1
  rw [← name_same bs hb8] at HRN
  have lim := name_len bs hb8
  obtain ⟨x, hx⟩ : ∃ x, (cName bs).1 = x := ⟨_, rfl⟩
  obtain ⟨k, hk⟩ : ∃ k, (cName bs).2 = k := ⟨_, rfl⟩
  rw [hx, hk] at HN HRN
  rw [hk] at lim
  have k1 : (1 : Int) ≤ (k : Int) := by omega
  have k2 : (k : Int) ≤ 4 := by omega
  have hl : bs.length ≤ 40 := by omega
  have HCV : Hid (∀ (w : World) (v : Value), Rd w v (by8 bs) → (convert 24 9 v).run Tryd.prog w = .ok (.string ⟨(bs.map UInt8.ofNat).toArray⟩) w) := fun w v h => conv_any h
  obtain ⟨S, hS⟩ : ∃ S, bs.map UInt8.ofNat = S := ⟨_, rfl⟩
  rw [hS] at HCV
  have n40 : (n : Int) ≤ 40 := by omega
  clear hTab hR0 hx hk lim hS hn
  obtain ⟨i0, hi, hz0, hz1, hz2⟩ := u8_parts
  have HI := Lib.hid hi
  have HZ0 := Lib.hid hz0
  have HZ1 := Lib.hid hz1
  have HZ2 := Lib.hid hz2
  clear hi hz0 hz1 hz2
  have HM := Lib.hid (Own.start w)
  have tg1 : Hid True := trivial
  go_enter Tryd.func5, Tryd.ntmps5
  go_wp2_with (first
    | (go_at_call 9; (with_reducible refine (alive_any _ (Tabs.own hT HM)).mono ?_); rintro e w' ⟨rfl, hb⟩; have HM' := Lib.hid (HM.out.call hb); clear HM hb; have HM := HM'; clear HM')
    | ((with_reducible apply own_made (cs := []) (e := 5) (n := 0) HM); exact rfl; exact madeB0; (focus (go_simp; done)); exact rfl; (first | (clear tg1; intro w' g1 HM'; clear HM; have HM := HM'; clear HM'; have HR : Hid (RowIs 5 [(g1, 5, [])] (.slice (some ⟨g1, 0, none⟩) 0 0) (by8 [])) := RowIs.made) | (clear tg2; clear HR; intro w' g2 HM'; clear HM; have HM := HM'; clear HM'; have HR : Hid (RowIs 5 [(g2, 5, [])] (.slice (some ⟨g2, 0, none⟩) 0 0) (by8 [])) := RowIs.made)); all_goals skip)
    | (refine own_app Tryd.underlying24 HI.out HZ0.out HZ1.out HZ2.out rfl (by decide) HM HR (List.Sublist.cons_cons _ (List.nil_sublist _)) rfl rfl rfl (Rd.own hR HM) (by8_one bs) (by simp only [List.length_append, by8_length, List.length_nil, List.length_replicate, List.length_take]; omega) rfl ?_; intro v1 w1 R1 HR' HM'; clear HM HR; have HM := HM'; have HR := HR'; clear HM' HR'; rw [← by8_append] at HR; all_goals skip)
    | (go_at_call 8; refine (HN.out _ _ (Rd.ofRow HR.out (fun e he => (HM.out.whole e he).2)) (Tabs.own hT HM)).mono ?_; rintro e w' ⟨rfl, hb⟩; have HM' := Lib.hid (HM.out.call hb); clear HM hb; have HM := HM'; clear HM')
    | (go_at_call 12; refine (HRN.out _ _ (Rd.own hR HM)).mono ?_; rintro e w' ⟨rfl, hb⟩; have HM' := Lib.hid (HM.out.call hb); clear HM hb; have HM := HM'; clear HM'; have cva := HCV.out _ _ (Rd.ofRow HR.out (fun e he => (HM.out.whole e he).2)); have cvb := HCV.out _ _ (Rd.own hR HM)))
  go_ret
  exact ⟨rfl, Own.fin HM⟩
theorem reads_any (bs : List Nat) (v : Value) (a : Option Addr) (c : Nat) (hv : v = .slice a bs.length c) (hb8 : ∀ i, bs.getD i 0 < 256) (w : World) (hR : Rd w v (by8 bs)) (hT : Tabs w) : Calls Tryd.prog 5 #[v] w fun e w' => e = .returned (.bool true) ∧ Below w.heap.size w w' := by
  subst hv
  by_cases h : 40 < bs.length
  · exact reads_long a _ c h w hT
  · exact reads_short bs a _ c rfl (by omega) hb8 w hR hT
end Go.Proofs.YtaiceidmcelapaaDoor
