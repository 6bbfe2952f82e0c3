import Derived.Test.YtljjgakfnajifaaGreatDoorZNdRef5
import Derived.Test.YtljjgakfnajifaaGreatDoorZBase
set_option linter.unusedSimpArgs false
set_option linter.unusedVariables false
namespace Go.Proofs.YtljjgakfnajifaaGreatDoor
open Go.RowKit
theorem u8_info : (Tryz.prog.info? 5).map (fun i => (i.zero, i.size, i.bytes)) = some (some (.int .u8 0), 1, 1) := by kernel_rfl
theorem u8_parts : ∃ i : TypeInfo, Tryz.prog.info? 5 = some i ∧ i.zero = some (.int .u8 0) ∧ i.size = 1 ∧ i.bytes = 1 := by
  have h := u8_info
  cases hq : Tryz.prog.info? 5 with
  | none => rw [hq] at h; simp at h
  | some i => rw [hq] at h; simp at h; exact ⟨i, rfl, h.1, h.2.1, h.2.2⟩
theorem madeB0 (w : World) : (Instr.buildSlice 30 0 #[]).run Tryz.prog w = .ok (.slice (some ⟨w.heap.size, 0, none⟩) 0 0) (w.alloc (.cells #[] 5)) := by kernel_rfl
theorem madeB4 (w : World) : (Instr.buildSlice 30 4 #[(0, .int .u8 0), (1, .int .u8 0), (2, .int .u8 0), (3, .int .u8 0)]).run Tryz.prog w = .ok (.slice (some ⟨w.heap.size, 0, none⟩) 4 4) (w.alloc (.cells (by8 (List.replicate 4 0)).toArray 5)) := by kernel_rfl
theorem madeB6 (w : World) : (Instr.buildSlice 30 6 #[(0, .int .u8 0), (1, .int .u8 0), (2, .int .u8 0), (3, .int .u8 0), (4, .int .u8 0), (5, .int .u8 0)]).run Tryz.prog w = .ok (.slice (some ⟨w.heap.size, 0, none⟩) 6 6) (w.alloc (.cells (by8 (List.replicate 6 0)).toArray 5)) := by kernel_rfl
theorem getD_pad (bs : List Nat) (k i : Nat) : (bs ++ List.replicate k 0).getD i 0 = bs.getD i 0 := by
  simp only [List.getD_eq_getElem?_getD, List.getElem?_append]
  split
  · rfl
  · rename_i h
    rw [List.getElem?_eq_none (Nat.le_of_not_lt h)]
    cases hq : (List.replicate k 0)[i - bs.length]? with
    | none => rfl
    | some x =>
      obtain ⟨h1, h2⟩ := List.getElem?_eq_some_iff.1 hq
      rw [List.getElem_replicate] at h2
      rw [← h2]; rfl
theorem row_cur {t : TypeId} {R : List (Nat × TypeId × List Value)} {v : Value} {bs : List Nat} (k : Nat) (hk : 0 < k) (HR : RowIs t R v (([] : List Value) ++ by8 bs ++ by8 (List.replicate k 0))) :
    ∃ g cap cur, R = [(g, t, cur)] ∧ v = .slice (some ⟨g, 0, none⟩) (bs.length + k) cap ∧ ∀ i < bs.length + k, cur[i]? = some (.int .u8 ((bs.getD i 0 : Nat) : Int)) := by
  rw [List.nil_append, ← by8_append] at HR
  rcases HR with ⟨-, -, hx⟩ | ⟨g, cap, cur, rfl, rfl, h1, h2, h3, h4⟩
  · have h := congrArg List.length hx
    rw [by8_length, List.length_append, List.length_replicate] at h
    simp only [List.length_nil] at h
    omega
  · have hl : (by8 (bs ++ List.replicate k 0)).length = bs.length + k := by rw [by8_length, List.length_append, List.length_replicate]
    refine ⟨g, cap, cur, rfl, by rw [hl], fun i hi => ?_⟩
    have e := by8_get (bs ++ List.replicate k 0) i (by rw [List.length_append, List.length_replicate]; exact hi)
    rw [getD_pad, ← h4, List.getElem?_take] at e
    split at e
    · exact e
    · cases e
def rBehind (b1 : Nat) (page : Int) : Int × Nat := if b1 = 221 ∨ b1 = 237 ∨ b1 = 253 then (-1, 0) else if b1 = 203 then (page + 2, 3) else (page, 1)
def rPage (b0 b1 : Nat) : Int × Nat := if b0 = 203 then (1, 1) else if b0 = 237 then (2, 1) else if b0 = 221 then rBehind b1 3 else if b0 = 253 then rBehind b1 4 else (0, 0)
set_option maxRecDepth 100000 in
set_option maxHeartbeats 3200000 in
theorem page_203 (v : Value) (bs : List Nat) (hl : bs.length < 10000) (d : Nat) (h0 : bs.getD 0 0 = 203) (h1 : bs.getD 1 0 = d) (w : World) (hR0 : Rd w v (by8 bs)) : Calls Tryz.prog 38 #[v] w fun e w' => e = .returned (.tuple #[.int .i64 (1), .int .i64 1]) ∧ Below w.heap.size w w' := by
  have hR : Hid (Rd w v (by8 bs)) := hR0
  have HC0 : Hid (∀ cur : List Value, (∀ i < bs.length + 4, cur[i]? = some (.int .u8 ((bs.getD i 0 : Nat) : Int))) → cur[0]? = some (.int .u8 203)) := by
    intro cur h
    have := h 0 (by omega)
    rw [h0] at this
    exact this
  have HC1 : Hid (∀ cur : List Value, (∀ i < bs.length + 4, cur[i]? = some (.int .u8 ((bs.getD i 0 : Nat) : Int))) → cur[1]? = some (.int .u8 (d : Int))) := by
    intro cur h
    have := h 1 (by omega)
    rw [h1] at this
    exact this
  obtain ⟨i0, hi, hz0, hz1, hz2⟩ := u8_parts
  have HI := Lib.hid hi
  have HZ0 := Lib.hid hz0
  have HZ1 := Lib.hid hz1
  have HZ2 := Lib.hid hz2
  clear hi hz0 hz1 hz2 hR0 h0 h1
  have HM := Lib.hid (Own.start w)
  have tg1 : Hid True := trivial
  go_enter Tryz.func38, Tryz.ntmps38
  go_wp2_with (first
    | ((with_reducible apply own_made (cs := []) (e := 5) (n := 0) HM); exact rfl; exact madeB0; (focus (go_simp; done)); exact rfl; clear tg1; intro w' g1 HM'; clear HM; have HM := HM'; clear HM'; have HR : Hid (RowIs 5 [(g1, 5, [])] (.slice (some ⟨g1, 0, none⟩) 0 0) []) := RowIs.made)
    | (refine own_app Tryz.underlying30 HI.out HZ0.out HZ1.out HZ2.out rfl (by decide) HM HR (List.Sublist.refl _) rfl rfl rfl (Rd.own hR HM) (by8_one bs) (by rw [by8_length]; simp only [List.length_nil]; omega) rfl ?_; intro v1 w1 R1 HR' HM'; clear HM HR; have HM := HM'; have HR := HR'; clear HM' HR')
    | ((with_reducible apply own_made (cs := by8 (List.replicate 4 0)) (e := 5) (n := 4) HM); exact rfl; exact madeB4; (focus (go_simp; done)); exact rfl; intro w' g2 HM'; clear HM; have HM := HM'; clear HM')
    | (refine own_app Tryz.underlying30 HI.out HZ0.out HZ1.out HZ2.out rfl (by decide) HM HR (List.sublist_cons_self _ _) rfl rfl rfl (Rd.ofWhole (HM.out.at_ .z) rfl) (by8_one _) (by simp only [List.length_append, by8_length, List.length_nil, List.length_replicate]; omega) rfl ?_; intro v2 w2 R2 HR' HM'; clear HM HR; obtain ⟨g, cap, cur, rfl, rfl, hcur⟩ := row_cur 4 (by decide) HR'.out; have HC := Lib.hid hcur; clear hcur HR'; have HM := HM'; clear HM')
    | ((with_reducible apply own_get HM); exact rfl; exact rfl; (with_reducible exact oneU8); (first | with_reducible exact .z | with_reducible exact .s .z); (first | exact HC0.out cur HC.out | exact HC1.out cur HC.out); exact rfl))
  go_ret2
  exact ⟨rfl, Own.fin HM⟩
set_option maxRecDepth 100000 in
set_option maxHeartbeats 3200000 in
theorem page_237 (v : Value) (bs : List Nat) (hl : bs.length < 10000) (d : Nat) (h0 : bs.getD 0 0 = 237) (h1 : bs.getD 1 0 = d) (w : World) (hR0 : Rd w v (by8 bs)) : Calls Tryz.prog 38 #[v] w fun e w' => e = .returned (.tuple #[.int .i64 (2), .int .i64 1]) ∧ Below w.heap.size w w' := by
  have hR : Hid (Rd w v (by8 bs)) := hR0
  have HC0 : Hid (∀ cur : List Value, (∀ i < bs.length + 4, cur[i]? = some (.int .u8 ((bs.getD i 0 : Nat) : Int))) → cur[0]? = some (.int .u8 237)) := by
    intro cur h
    have := h 0 (by omega)
    rw [h0] at this
    exact this
  have HC1 : Hid (∀ cur : List Value, (∀ i < bs.length + 4, cur[i]? = some (.int .u8 ((bs.getD i 0 : Nat) : Int))) → cur[1]? = some (.int .u8 (d : Int))) := by
    intro cur h
    have := h 1 (by omega)
    rw [h1] at this
    exact this
  obtain ⟨i0, hi, hz0, hz1, hz2⟩ := u8_parts
  have HI := Lib.hid hi
  have HZ0 := Lib.hid hz0
  have HZ1 := Lib.hid hz1
  have HZ2 := Lib.hid hz2
  clear hi hz0 hz1 hz2 hR0 h0 h1
  have HM := Lib.hid (Own.start w)
  have tg1 : Hid True := trivial
  go_enter Tryz.func38, Tryz.ntmps38
  go_wp2_with (first
    | ((with_reducible apply own_made (cs := []) (e := 5) (n := 0) HM); exact rfl; exact madeB0; (focus (go_simp; done)); exact rfl; clear tg1; intro w' g1 HM'; clear HM; have HM := HM'; clear HM'; have HR : Hid (RowIs 5 [(g1, 5, [])] (.slice (some ⟨g1, 0, none⟩) 0 0) []) := RowIs.made)
    | (refine own_app Tryz.underlying30 HI.out HZ0.out HZ1.out HZ2.out rfl (by decide) HM HR (List.Sublist.refl _) rfl rfl rfl (Rd.own hR HM) (by8_one bs) (by rw [by8_length]; simp only [List.length_nil]; omega) rfl ?_; intro v1 w1 R1 HR' HM'; clear HM HR; have HM := HM'; have HR := HR'; clear HM' HR')
    | ((with_reducible apply own_made (cs := by8 (List.replicate 4 0)) (e := 5) (n := 4) HM); exact rfl; exact madeB4; (focus (go_simp; done)); exact rfl; intro w' g2 HM'; clear HM; have HM := HM'; clear HM')
    | (refine own_app Tryz.underlying30 HI.out HZ0.out HZ1.out HZ2.out rfl (by decide) HM HR (List.sublist_cons_self _ _) rfl rfl rfl (Rd.ofWhole (HM.out.at_ .z) rfl) (by8_one _) (by simp only [List.length_append, by8_length, List.length_nil, List.length_replicate]; omega) rfl ?_; intro v2 w2 R2 HR' HM'; clear HM HR; obtain ⟨g, cap, cur, rfl, rfl, hcur⟩ := row_cur 4 (by decide) HR'.out; have HC := Lib.hid hcur; clear hcur HR'; have HM := HM'; clear HM')
    | ((with_reducible apply own_get HM); exact rfl; exact rfl; (with_reducible exact oneU8); (first | with_reducible exact .z | with_reducible exact .s .z); (first | exact HC0.out cur HC.out | exact HC1.out cur HC.out); exact rfl))
  go_ret2
  exact ⟨rfl, Own.fin HM⟩
set_option maxRecDepth 100000 in
set_option maxHeartbeats 3200000 in
theorem page_221_221 (v : Value) (bs : List Nat) (hl : bs.length < 10000) (h0 : bs.getD 0 0 = 221) (h1 : bs.getD 1 0 = 221) (w : World) (hR0 : Rd w v (by8 bs)) : Calls Tryz.prog 38 #[v] w fun e w' => e = .returned (.tuple #[.int .i64 (-1), .int .i64 0]) ∧ Below w.heap.size w w' := by
  have hR : Hid (Rd w v (by8 bs)) := hR0
  have HC0 : Hid (∀ cur : List Value, (∀ i < bs.length + 4, cur[i]? = some (.int .u8 ((bs.getD i 0 : Nat) : Int))) → cur[0]? = some (.int .u8 221)) := by
    intro cur h
    have := h 0 (by omega)
    rw [h0] at this
    exact this
  have HC1 : Hid (∀ cur : List Value, (∀ i < bs.length + 4, cur[i]? = some (.int .u8 ((bs.getD i 0 : Nat) : Int))) → cur[1]? = some (.int .u8 221)) := by
    intro cur h
    have := h 1 (by omega)
    rw [h1] at this
    exact this
  obtain ⟨i0, hi, hz0, hz1, hz2⟩ := u8_parts
  have HI := Lib.hid hi
  have HZ0 := Lib.hid hz0
  have HZ1 := Lib.hid hz1
  have HZ2 := Lib.hid hz2
  clear hi hz0 hz1 hz2 hR0 h0 h1
  have HM := Lib.hid (Own.start w)
  have tg1 : Hid True := trivial
  go_enter Tryz.func38, Tryz.ntmps38
  go_wp2_with (first
    | ((with_reducible apply own_made (cs := []) (e := 5) (n := 0) HM); exact rfl; exact madeB0; (focus (go_simp; done)); exact rfl; clear tg1; intro w' g1 HM'; clear HM; have HM := HM'; clear HM'; have HR : Hid (RowIs 5 [(g1, 5, [])] (.slice (some ⟨g1, 0, none⟩) 0 0) []) := RowIs.made)
    | (refine own_app Tryz.underlying30 HI.out HZ0.out HZ1.out HZ2.out rfl (by decide) HM HR (List.Sublist.refl _) rfl rfl rfl (Rd.own hR HM) (by8_one bs) (by rw [by8_length]; simp only [List.length_nil]; omega) rfl ?_; intro v1 w1 R1 HR' HM'; clear HM HR; have HM := HM'; have HR := HR'; clear HM' HR')
    | ((with_reducible apply own_made (cs := by8 (List.replicate 4 0)) (e := 5) (n := 4) HM); exact rfl; exact madeB4; (focus (go_simp; done)); exact rfl; intro w' g2 HM'; clear HM; have HM := HM'; clear HM')
    | (refine own_app Tryz.underlying30 HI.out HZ0.out HZ1.out HZ2.out rfl (by decide) HM HR (List.sublist_cons_self _ _) rfl rfl rfl (Rd.ofWhole (HM.out.at_ .z) rfl) (by8_one _) (by simp only [List.length_append, by8_length, List.length_nil, List.length_replicate]; omega) rfl ?_; intro v2 w2 R2 HR' HM'; clear HM HR; obtain ⟨g, cap, cur, rfl, rfl, hcur⟩ := row_cur 4 (by decide) HR'.out; have HC := Lib.hid hcur; clear hcur HR'; have HM := HM'; clear HM')
    | ((with_reducible apply own_get HM); exact rfl; exact rfl; (with_reducible exact oneU8); (first | with_reducible exact .z | with_reducible exact .s .z); (first | exact HC0.out cur HC.out | exact HC1.out cur HC.out); exact rfl))
  go_ret2
  exact ⟨rfl, Own.fin HM⟩
set_option maxRecDepth 100000 in
set_option maxHeartbeats 3200000 in
theorem page_221_237 (v : Value) (bs : List Nat) (hl : bs.length < 10000) (h0 : bs.getD 0 0 = 221) (h1 : bs.getD 1 0 = 237) (w : World) (hR0 : Rd w v (by8 bs)) : Calls Tryz.prog 38 #[v] w fun e w' => e = .returned (.tuple #[.int .i64 (-1), .int .i64 0]) ∧ Below w.heap.size w w' := by
  have hR : Hid (Rd w v (by8 bs)) := hR0
  have HC0 : Hid (∀ cur : List Value, (∀ i < bs.length + 4, cur[i]? = some (.int .u8 ((bs.getD i 0 : Nat) : Int))) → cur[0]? = some (.int .u8 221)) := by
    intro cur h
    have := h 0 (by omega)
    rw [h0] at this
    exact this
  have HC1 : Hid (∀ cur : List Value, (∀ i < bs.length + 4, cur[i]? = some (.int .u8 ((bs.getD i 0 : Nat) : Int))) → cur[1]? = some (.int .u8 237)) := by
    intro cur h
    have := h 1 (by omega)
    rw [h1] at this
    exact this
  obtain ⟨i0, hi, hz0, hz1, hz2⟩ := u8_parts
  have HI := Lib.hid hi
  have HZ0 := Lib.hid hz0
  have HZ1 := Lib.hid hz1
  have HZ2 := Lib.hid hz2
  clear hi hz0 hz1 hz2 hR0 h0 h1
  have HM := Lib.hid (Own.start w)
  have tg1 : Hid True := trivial
  go_enter Tryz.func38, Tryz.ntmps38
  go_wp2_with (first
    | ((with_reducible apply own_made (cs := []) (e := 5) (n := 0) HM); exact rfl; exact madeB0; (focus (go_simp; done)); exact rfl; clear tg1; intro w' g1 HM'; clear HM; have HM := HM'; clear HM'; have HR : Hid (RowIs 5 [(g1, 5, [])] (.slice (some ⟨g1, 0, none⟩) 0 0) []) := RowIs.made)
    | (refine own_app Tryz.underlying30 HI.out HZ0.out HZ1.out HZ2.out rfl (by decide) HM HR (List.Sublist.refl _) rfl rfl rfl (Rd.own hR HM) (by8_one bs) (by rw [by8_length]; simp only [List.length_nil]; omega) rfl ?_; intro v1 w1 R1 HR' HM'; clear HM HR; have HM := HM'; have HR := HR'; clear HM' HR')
    | ((with_reducible apply own_made (cs := by8 (List.replicate 4 0)) (e := 5) (n := 4) HM); exact rfl; exact madeB4; (focus (go_simp; done)); exact rfl; intro w' g2 HM'; clear HM; have HM := HM'; clear HM')
    | (refine own_app Tryz.underlying30 HI.out HZ0.out HZ1.out HZ2.out rfl (by decide) HM HR (List.sublist_cons_self _ _) rfl rfl rfl (Rd.ofWhole (HM.out.at_ .z) rfl) (by8_one _) (by simp only [List.length_append, by8_length, List.length_nil, List.length_replicate]; omega) rfl ?_; intro v2 w2 R2 HR' HM'; clear HM HR; obtain ⟨g, cap, cur, rfl, rfl, hcur⟩ := row_cur 4 (by decide) HR'.out; have HC := Lib.hid hcur; clear hcur HR'; have HM := HM'; clear HM')
    | ((with_reducible apply own_get HM); exact rfl; exact rfl; (with_reducible exact oneU8); (first | with_reducible exact .z | with_reducible exact .s .z); (first | exact HC0.out cur HC.out | exact HC1.out cur HC.out); exact rfl))
  go_ret2
  exact ⟨rfl, Own.fin HM⟩
set_option maxRecDepth 100000 in
set_option maxHeartbeats 3200000 in
theorem page_221_253 (v : Value) (bs : List Nat) (hl : bs.length < 10000) (h0 : bs.getD 0 0 = 221) (h1 : bs.getD 1 0 = 253) (w : World) (hR0 : Rd w v (by8 bs)) : Calls Tryz.prog 38 #[v] w fun e w' => e = .returned (.tuple #[.int .i64 (-1), .int .i64 0]) ∧ Below w.heap.size w w' := by
  have hR : Hid (Rd w v (by8 bs)) := hR0
  have HC0 : Hid (∀ cur : List Value, (∀ i < bs.length + 4, cur[i]? = some (.int .u8 ((bs.getD i 0 : Nat) : Int))) → cur[0]? = some (.int .u8 221)) := by
    intro cur h
    have := h 0 (by omega)
    rw [h0] at this
    exact this
  have HC1 : Hid (∀ cur : List Value, (∀ i < bs.length + 4, cur[i]? = some (.int .u8 ((bs.getD i 0 : Nat) : Int))) → cur[1]? = some (.int .u8 253)) := by
    intro cur h
    have := h 1 (by omega)
    rw [h1] at this
    exact this
  obtain ⟨i0, hi, hz0, hz1, hz2⟩ := u8_parts
  have HI := Lib.hid hi
  have HZ0 := Lib.hid hz0
  have HZ1 := Lib.hid hz1
  have HZ2 := Lib.hid hz2
  clear hi hz0 hz1 hz2 hR0 h0 h1
  have HM := Lib.hid (Own.start w)
  have tg1 : Hid True := trivial
  go_enter Tryz.func38, Tryz.ntmps38
  go_wp2_with (first
    | ((with_reducible apply own_made (cs := []) (e := 5) (n := 0) HM); exact rfl; exact madeB0; (focus (go_simp; done)); exact rfl; clear tg1; intro w' g1 HM'; clear HM; have HM := HM'; clear HM'; have HR : Hid (RowIs 5 [(g1, 5, [])] (.slice (some ⟨g1, 0, none⟩) 0 0) []) := RowIs.made)
    | (refine own_app Tryz.underlying30 HI.out HZ0.out HZ1.out HZ2.out rfl (by decide) HM HR (List.Sublist.refl _) rfl rfl rfl (Rd.own hR HM) (by8_one bs) (by rw [by8_length]; simp only [List.length_nil]; omega) rfl ?_; intro v1 w1 R1 HR' HM'; clear HM HR; have HM := HM'; have HR := HR'; clear HM' HR')
    | ((with_reducible apply own_made (cs := by8 (List.replicate 4 0)) (e := 5) (n := 4) HM); exact rfl; exact madeB4; (focus (go_simp; done)); exact rfl; intro w' g2 HM'; clear HM; have HM := HM'; clear HM')
    | (refine own_app Tryz.underlying30 HI.out HZ0.out HZ1.out HZ2.out rfl (by decide) HM HR (List.sublist_cons_self _ _) rfl rfl rfl (Rd.ofWhole (HM.out.at_ .z) rfl) (by8_one _) (by simp only [List.length_append, by8_length, List.length_nil, List.length_replicate]; omega) rfl ?_; intro v2 w2 R2 HR' HM'; clear HM HR; obtain ⟨g, cap, cur, rfl, rfl, hcur⟩ := row_cur 4 (by decide) HR'.out; have HC := Lib.hid hcur; clear hcur HR'; have HM := HM'; clear HM')
    | ((with_reducible apply own_get HM); exact rfl; exact rfl; (with_reducible exact oneU8); (first | with_reducible exact .z | with_reducible exact .s .z); (first | exact HC0.out cur HC.out | exact HC1.out cur HC.out); exact rfl))
  go_ret2
  exact ⟨rfl, Own.fin HM⟩
set_option maxRecDepth 100000 in
set_option maxHeartbeats 3200000 in
theorem page_221_203 (v : Value) (bs : List Nat) (hl : bs.length < 10000) (h0 : bs.getD 0 0 = 221) (h1 : bs.getD 1 0 = 203) (w : World) (hR0 : Rd w v (by8 bs)) : Calls Tryz.prog 38 #[v] w fun e w' => e = .returned (.tuple #[.int .i64 (5), .int .i64 3]) ∧ Below w.heap.size w w' := by
  have hR : Hid (Rd w v (by8 bs)) := hR0
  have HC0 : Hid (∀ cur : List Value, (∀ i < bs.length + 4, cur[i]? = some (.int .u8 ((bs.getD i 0 : Nat) : Int))) → cur[0]? = some (.int .u8 221)) := by
    intro cur h
    have := h 0 (by omega)
    rw [h0] at this
    exact this
  have HC1 : Hid (∀ cur : List Value, (∀ i < bs.length + 4, cur[i]? = some (.int .u8 ((bs.getD i 0 : Nat) : Int))) → cur[1]? = some (.int .u8 203)) := by
    intro cur h
    have := h 1 (by omega)
    rw [h1] at this
    exact this
  obtain ⟨i0, hi, hz0, hz1, hz2⟩ := u8_parts
  have HI := Lib.hid hi
  have HZ0 := Lib.hid hz0
  have HZ1 := Lib.hid hz1
  have HZ2 := Lib.hid hz2
  clear hi hz0 hz1 hz2 hR0 h0 h1
  have HM := Lib.hid (Own.start w)
  have tg1 : Hid True := trivial
  go_enter Tryz.func38, Tryz.ntmps38
  go_wp2_with (first
    | ((with_reducible apply own_made (cs := []) (e := 5) (n := 0) HM); exact rfl; exact madeB0; (focus (go_simp; done)); exact rfl; clear tg1; intro w' g1 HM'; clear HM; have HM := HM'; clear HM'; have HR : Hid (RowIs 5 [(g1, 5, [])] (.slice (some ⟨g1, 0, none⟩) 0 0) []) := RowIs.made)
    | (refine own_app Tryz.underlying30 HI.out HZ0.out HZ1.out HZ2.out rfl (by decide) HM HR (List.Sublist.refl _) rfl rfl rfl (Rd.own hR HM) (by8_one bs) (by rw [by8_length]; simp only [List.length_nil]; omega) rfl ?_; intro v1 w1 R1 HR' HM'; clear HM HR; have HM := HM'; have HR := HR'; clear HM' HR')
    | ((with_reducible apply own_made (cs := by8 (List.replicate 4 0)) (e := 5) (n := 4) HM); exact rfl; exact madeB4; (focus (go_simp; done)); exact rfl; intro w' g2 HM'; clear HM; have HM := HM'; clear HM')
    | (refine own_app Tryz.underlying30 HI.out HZ0.out HZ1.out HZ2.out rfl (by decide) HM HR (List.sublist_cons_self _ _) rfl rfl rfl (Rd.ofWhole (HM.out.at_ .z) rfl) (by8_one _) (by simp only [List.length_append, by8_length, List.length_nil, List.length_replicate]; omega) rfl ?_; intro v2 w2 R2 HR' HM'; clear HM HR; obtain ⟨g, cap, cur, rfl, rfl, hcur⟩ := row_cur 4 (by decide) HR'.out; have HC := Lib.hid hcur; clear hcur HR'; have HM := HM'; clear HM')
    | ((with_reducible apply own_get HM); exact rfl; exact rfl; (with_reducible exact oneU8); (first | with_reducible exact .z | with_reducible exact .s .z); (first | exact HC0.out cur HC.out | exact HC1.out cur HC.out); exact rfl))
  go_ret2
  exact ⟨rfl, Own.fin HM⟩
set_option maxRecDepth 100000 in
set_option maxHeartbeats 3200000 in
theorem page_221_x (v : Value) (bs : List Nat) (hl : bs.length < 10000) (d : Nat) (h0 : bs.getD 0 0 = 221) (h1 : bs.getD 1 0 = d) (n1 : d ≠ 221) (n2 : d ≠ 237) (n3 : d ≠ 253) (n4 : d ≠ 203) (w : World) (hR0 : Rd w v (by8 bs)) : Calls Tryz.prog 38 #[v] w fun e w' => e = .returned (.tuple #[.int .i64 (3), .int .i64 1]) ∧ Below w.heap.size w w' := by
  have hR : Hid (Rd w v (by8 bs)) := hR0
  have HC0 : Hid (∀ cur : List Value, (∀ i < bs.length + 4, cur[i]? = some (.int .u8 ((bs.getD i 0 : Nat) : Int))) → cur[0]? = some (.int .u8 221)) := by
    intro cur h
    have := h 0 (by omega)
    rw [h0] at this
    exact this
  have HC1 : Hid (∀ cur : List Value, (∀ i < bs.length + 4, cur[i]? = some (.int .u8 ((bs.getD i 0 : Nat) : Int))) → cur[1]? = some (.int .u8 (d : Int))) := by
    intro cur h
    have := h 1 (by omega)
    rw [h1] at this
    exact this
  have g221 : ((d : Int) == 221) = false := by rw [beq_eq_false_iff_ne]; omega
  have g237 : ((d : Int) == 237) = false := by rw [beq_eq_false_iff_ne]; omega
  have g253 : ((d : Int) == 253) = false := by rw [beq_eq_false_iff_ne]; omega
  have g203 : ((d : Int) == 203) = false := by rw [beq_eq_false_iff_ne]; omega
  obtain ⟨i0, hi, hz0, hz1, hz2⟩ := u8_parts
  have HI := Lib.hid hi
  have HZ0 := Lib.hid hz0
  have HZ1 := Lib.hid hz1
  have HZ2 := Lib.hid hz2
  clear hi hz0 hz1 hz2 hR0 h0 h1
  have HM := Lib.hid (Own.start w)
  have tg1 : Hid True := trivial
  go_enter Tryz.func38, Tryz.ntmps38
  go_wp2_with (first
    | ((with_reducible apply own_made (cs := []) (e := 5) (n := 0) HM); exact rfl; exact madeB0; (focus (go_simp; done)); exact rfl; clear tg1; intro w' g1 HM'; clear HM; have HM := HM'; clear HM'; have HR : Hid (RowIs 5 [(g1, 5, [])] (.slice (some ⟨g1, 0, none⟩) 0 0) []) := RowIs.made)
    | (refine own_app Tryz.underlying30 HI.out HZ0.out HZ1.out HZ2.out rfl (by decide) HM HR (List.Sublist.refl _) rfl rfl rfl (Rd.own hR HM) (by8_one bs) (by rw [by8_length]; simp only [List.length_nil]; omega) rfl ?_; intro v1 w1 R1 HR' HM'; clear HM HR; have HM := HM'; have HR := HR'; clear HM' HR')
    | ((with_reducible apply own_made (cs := by8 (List.replicate 4 0)) (e := 5) (n := 4) HM); exact rfl; exact madeB4; (focus (go_simp; done)); exact rfl; intro w' g2 HM'; clear HM; have HM := HM'; clear HM')
    | (refine own_app Tryz.underlying30 HI.out HZ0.out HZ1.out HZ2.out rfl (by decide) HM HR (List.sublist_cons_self _ _) rfl rfl rfl (Rd.ofWhole (HM.out.at_ .z) rfl) (by8_one _) (by simp only [List.length_append, by8_length, List.length_nil, List.length_replicate]; omega) rfl ?_; intro v2 w2 R2 HR' HM'; clear HM HR; obtain ⟨g, cap, cur, rfl, rfl, hcur⟩ := row_cur 4 (by decide) HR'.out; have HC := Lib.hid hcur; clear hcur HR'; have HM := HM'; clear HM')
    | ((with_reducible apply own_get HM); exact rfl; exact rfl; (with_reducible exact oneU8); (first | with_reducible exact .z | with_reducible exact .s .z); (first | exact HC0.out cur HC.out | exact HC1.out cur HC.out); exact rfl))
  go_ret2
  exact ⟨rfl, Own.fin HM⟩
set_option maxRecDepth 100000 in
set_option maxHeartbeats 3200000 in
theorem page_253_221 (v : Value) (bs : List Nat) (hl : bs.length < 10000) (h0 : bs.getD 0 0 = 253) (h1 : bs.getD 1 0 = 221) (w : World) (hR0 : Rd w v (by8 bs)) : Calls Tryz.prog 38 #[v] w fun e w' => e = .returned (.tuple #[.int .i64 (-1), .int .i64 0]) ∧ Below w.heap.size w w' := by
  have hR : Hid (Rd w v (by8 bs)) := hR0
  have HC0 : Hid (∀ cur : List Value, (∀ i < bs.length + 4, cur[i]? = some (.int .u8 ((bs.getD i 0 : Nat) : Int))) → cur[0]? = some (.int .u8 253)) := by
    intro cur h
    have := h 0 (by omega)
    rw [h0] at this
    exact this
  have HC1 : Hid (∀ cur : List Value, (∀ i < bs.length + 4, cur[i]? = some (.int .u8 ((bs.getD i 0 : Nat) : Int))) → cur[1]? = some (.int .u8 221)) := by
    intro cur h
    have := h 1 (by omega)
    rw [h1] at this
    exact this
  obtain ⟨i0, hi, hz0, hz1, hz2⟩ := u8_parts
  have HI := Lib.hid hi
  have HZ0 := Lib.hid hz0
  have HZ1 := Lib.hid hz1
  have HZ2 := Lib.hid hz2
  clear hi hz0 hz1 hz2 hR0 h0 h1
  have HM := Lib.hid (Own.start w)
  have tg1 : Hid True := trivial
  go_enter Tryz.func38, Tryz.ntmps38
  go_wp2_with (first
    | ((with_reducible apply own_made (cs := []) (e := 5) (n := 0) HM); exact rfl; exact madeB0; (focus (go_simp; done)); exact rfl; clear tg1; intro w' g1 HM'; clear HM; have HM := HM'; clear HM'; have HR : Hid (RowIs 5 [(g1, 5, [])] (.slice (some ⟨g1, 0, none⟩) 0 0) []) := RowIs.made)
    | (refine own_app Tryz.underlying30 HI.out HZ0.out HZ1.out HZ2.out rfl (by decide) HM HR (List.Sublist.refl _) rfl rfl rfl (Rd.own hR HM) (by8_one bs) (by rw [by8_length]; simp only [List.length_nil]; omega) rfl ?_; intro v1 w1 R1 HR' HM'; clear HM HR; have HM := HM'; have HR := HR'; clear HM' HR')
    | ((with_reducible apply own_made (cs := by8 (List.replicate 4 0)) (e := 5) (n := 4) HM); exact rfl; exact madeB4; (focus (go_simp; done)); exact rfl; intro w' g2 HM'; clear HM; have HM := HM'; clear HM')
    | (refine own_app Tryz.underlying30 HI.out HZ0.out HZ1.out HZ2.out rfl (by decide) HM HR (List.sublist_cons_self _ _) rfl rfl rfl (Rd.ofWhole (HM.out.at_ .z) rfl) (by8_one _) (by simp only [List.length_append, by8_length, List.length_nil, List.length_replicate]; omega) rfl ?_; intro v2 w2 R2 HR' HM'; clear HM HR; obtain ⟨g, cap, cur, rfl, rfl, hcur⟩ := row_cur 4 (by decide) HR'.out; have HC := Lib.hid hcur; clear hcur HR'; have HM := HM'; clear HM')
    | ((with_reducible apply own_get HM); exact rfl; exact rfl; (with_reducible exact oneU8); (first | with_reducible exact .z | with_reducible exact .s .z); (first | exact HC0.out cur HC.out | exact HC1.out cur HC.out); exact rfl))
  go_ret2
  exact ⟨rfl, Own.fin HM⟩
set_option maxRecDepth 100000 in
set_option maxHeartbeats 3200000 in
theorem page_253_237 (v : Value) (bs : List Nat) (hl : bs.length < 10000) (h0 : bs.getD 0 0 = 253) (h1 : bs.getD 1 0 = 237) (w : World) (hR0 : Rd w v (by8 bs)) : Calls Tryz.prog 38 #[v] w fun e w' => e = .returned (.tuple #[.int .i64 (-1), .int .i64 0]) ∧ Below w.heap.size w w' := by
  have hR : Hid (Rd w v (by8 bs)) := hR0
  have HC0 : Hid (∀ cur : List Value, (∀ i < bs.length + 4, cur[i]? = some (.int .u8 ((bs.getD i 0 : Nat) : Int))) → cur[0]? = some (.int .u8 253)) := by
    intro cur h
    have := h 0 (by omega)
    rw [h0] at this
    exact this
  have HC1 : Hid (∀ cur : List Value, (∀ i < bs.length + 4, cur[i]? = some (.int .u8 ((bs.getD i 0 : Nat) : Int))) → cur[1]? = some (.int .u8 237)) := by
    intro cur h
    have := h 1 (by omega)
    rw [h1] at this
    exact this
  obtain ⟨i0, hi, hz0, hz1, hz2⟩ := u8_parts
  have HI := Lib.hid hi
  have HZ0 := Lib.hid hz0
  have HZ1 := Lib.hid hz1
  have HZ2 := Lib.hid hz2
  clear hi hz0 hz1 hz2 hR0 h0 h1
  have HM := Lib.hid (Own.start w)
  have tg1 : Hid True := trivial
  go_enter Tryz.func38, Tryz.ntmps38
  go_wp2_with (first
    | ((with_reducible apply own_made (cs := []) (e := 5) (n := 0) HM); exact rfl; exact madeB0; (focus (go_simp; done)); exact rfl; clear tg1; intro w' g1 HM'; clear HM; have HM := HM'; clear HM'; have HR : Hid (RowIs 5 [(g1, 5, [])] (.slice (some ⟨g1, 0, none⟩) 0 0) []) := RowIs.made)
    | (refine own_app Tryz.underlying30 HI.out HZ0.out HZ1.out HZ2.out rfl (by decide) HM HR (List.Sublist.refl _) rfl rfl rfl (Rd.own hR HM) (by8_one bs) (by rw [by8_length]; simp only [List.length_nil]; omega) rfl ?_; intro v1 w1 R1 HR' HM'; clear HM HR; have HM := HM'; have HR := HR'; clear HM' HR')
    | ((with_reducible apply own_made (cs := by8 (List.replicate 4 0)) (e := 5) (n := 4) HM); exact rfl; exact madeB4; (focus (go_simp; done)); exact rfl; intro w' g2 HM'; clear HM; have HM := HM'; clear HM')
    | (refine own_app Tryz.underlying30 HI.out HZ0.out HZ1.out HZ2.out rfl (by decide) HM HR (List.sublist_cons_self _ _) rfl rfl rfl (Rd.ofWhole (HM.out.at_ .z) rfl) (by8_one _) (by simp only [List.length_append, by8_length, List.length_nil, List.length_replicate]; omega) rfl ?_; intro v2 w2 R2 HR' HM'; clear HM HR; obtain ⟨g, cap, cur, rfl, rfl, hcur⟩ := row_cur 4 (by decide) HR'.out; have HC := Lib.hid hcur; clear hcur HR'; have HM := HM'; clear HM')
    | ((with_reducible apply own_get HM); exact rfl; exact rfl; (with_reducible exact oneU8); (first | with_reducible exact .z | with_reducible exact .s .z); (first | exact HC0.out cur HC.out | exact HC1.out cur HC.out); exact rfl))
  go_ret2
  exact ⟨rfl, Own.fin HM⟩
set_option maxRecDepth 100000 in
set_option maxHeartbeats 3200000 in
theorem page_253_253 (v : Value) (bs : List Nat) (hl : bs.length < 10000) (h0 : bs.getD 0 0 = 253) (h1 : bs.getD 1 0 = 253) (w : World) (hR0 : Rd w v (by8 bs)) : Calls Tryz.prog 38 #[v] w fun e w' => e = .returned (.tuple #[.int .i64 (-1), .int .i64 0]) ∧ Below w.heap.size w w' := by
  have hR : Hid (Rd w v (by8 bs)) := hR0
  have HC0 : Hid (∀ cur : List Value, (∀ i < bs.length + 4, cur[i]? = some (.int .u8 ((bs.getD i 0 : Nat) : Int))) → cur[0]? = some (.int .u8 253)) := by
    intro cur h
    have := h 0 (by omega)
    rw [h0] at this
    exact this
  have HC1 : Hid (∀ cur : List Value, (∀ i < bs.length + 4, cur[i]? = some (.int .u8 ((bs.getD i 0 : Nat) : Int))) → cur[1]? = some (.int .u8 253)) := by
    intro cur h
    have := h 1 (by omega)
    rw [h1] at this
    exact this
  obtain ⟨i0, hi, hz0, hz1, hz2⟩ := u8_parts
  have HI := Lib.hid hi
  have HZ0 := Lib.hid hz0
  have HZ1 := Lib.hid hz1
  have HZ2 := Lib.hid hz2
  clear hi hz0 hz1 hz2 hR0 h0 h1
  have HM := Lib.hid (Own.start w)
  have tg1 : Hid True := trivial
  go_enter Tryz.func38, Tryz.ntmps38
  go_wp2_with (first
    | ((with_reducible apply own_made (cs := []) (e := 5) (n := 0) HM); exact rfl; exact madeB0; (focus (go_simp; done)); exact rfl; clear tg1; intro w' g1 HM'; clear HM; have HM := HM'; clear HM'; have HR : Hid (RowIs 5 [(g1, 5, [])] (.slice (some ⟨g1, 0, none⟩) 0 0) []) := RowIs.made)
    | (refine own_app Tryz.underlying30 HI.out HZ0.out HZ1.out HZ2.out rfl (by decide) HM HR (List.Sublist.refl _) rfl rfl rfl (Rd.own hR HM) (by8_one bs) (by rw [by8_length]; simp only [List.length_nil]; omega) rfl ?_; intro v1 w1 R1 HR' HM'; clear HM HR; have HM := HM'; have HR := HR'; clear HM' HR')
    | ((with_reducible apply own_made (cs := by8 (List.replicate 4 0)) (e := 5) (n := 4) HM); exact rfl; exact madeB4; (focus (go_simp; done)); exact rfl; intro w' g2 HM'; clear HM; have HM := HM'; clear HM')
    | (refine own_app Tryz.underlying30 HI.out HZ0.out HZ1.out HZ2.out rfl (by decide) HM HR (List.sublist_cons_self _ _) rfl rfl rfl (Rd.ofWhole (HM.out.at_ .z) rfl) (by8_one _) (by simp only [List.length_append, by8_length, List.length_nil, List.length_replicate]; omega) rfl ?_; intro v2 w2 R2 HR' HM'; clear HM HR; obtain ⟨g, cap, cur, rfl, rfl, hcur⟩ := row_cur 4 (by decide) HR'.out; have HC := Lib.hid hcur; clear hcur HR'; have HM := HM'; clear HM')
    | ((with_reducible apply own_get HM); exact rfl; exact rfl; (with_reducible exact oneU8); (first | with_reducible exact .z | with_reducible exact .s .z); (first | exact HC0.out cur HC.out | exact HC1.out cur HC.out); exact rfl))
  go_ret2
  exact ⟨rfl, Own.fin HM⟩
set_option maxRecDepth 100000 in
set_option maxHeartbeats 3200000 in
theorem page_253_203 (v : Value) (bs : List Nat) (hl : bs.length < 10000) (h0 : bs.getD 0 0 = 253) (h1 : bs.getD 1 0 = 203) (w : World) (hR0 : Rd w v (by8 bs)) : Calls Tryz.prog 38 #[v] w fun e w' => e = .returned (.tuple #[.int .i64 (6), .int .i64 3]) ∧ Below w.heap.size w w' := by
  have hR : Hid (Rd w v (by8 bs)) := hR0
  have HC0 : Hid (∀ cur : List Value, (∀ i < bs.length + 4, cur[i]? = some (.int .u8 ((bs.getD i 0 : Nat) : Int))) → cur[0]? = some (.int .u8 253)) := by
    intro cur h
    have := h 0 (by omega)
    rw [h0] at this
    exact this
  have HC1 : Hid (∀ cur : List Value, (∀ i < bs.length + 4, cur[i]? = some (.int .u8 ((bs.getD i 0 : Nat) : Int))) → cur[1]? = some (.int .u8 203)) := by
    intro cur h
    have := h 1 (by omega)
    rw [h1] at this
    exact this
  obtain ⟨i0, hi, hz0, hz1, hz2⟩ := u8_parts
  have HI := Lib.hid hi
  have HZ0 := Lib.hid hz0
  have HZ1 := Lib.hid hz1
  have HZ2 := Lib.hid hz2
  clear hi hz0 hz1 hz2 hR0 h0 h1
  have HM := Lib.hid (Own.start w)
  have tg1 : Hid True := trivial
  go_enter Tryz.func38, Tryz.ntmps38
  go_wp2_with (first
    | ((with_reducible apply own_made (cs := []) (e := 5) (n := 0) HM); exact rfl; exact madeB0; (focus (go_simp; done)); exact rfl; clear tg1; intro w' g1 HM'; clear HM; have HM := HM'; clear HM'; have HR : Hid (RowIs 5 [(g1, 5, [])] (.slice (some ⟨g1, 0, none⟩) 0 0) []) := RowIs.made)
    | (refine own_app Tryz.underlying30 HI.out HZ0.out HZ1.out HZ2.out rfl (by decide) HM HR (List.Sublist.refl _) rfl rfl rfl (Rd.own hR HM) (by8_one bs) (by rw [by8_length]; simp only [List.length_nil]; omega) rfl ?_; intro v1 w1 R1 HR' HM'; clear HM HR; have HM := HM'; have HR := HR'; clear HM' HR')
    | ((with_reducible apply own_made (cs := by8 (List.replicate 4 0)) (e := 5) (n := 4) HM); exact rfl; exact madeB4; (focus (go_simp; done)); exact rfl; intro w' g2 HM'; clear HM; have HM := HM'; clear HM')
    | (refine own_app Tryz.underlying30 HI.out HZ0.out HZ1.out HZ2.out rfl (by decide) HM HR (List.sublist_cons_self _ _) rfl rfl rfl (Rd.ofWhole (HM.out.at_ .z) rfl) (by8_one _) (by simp only [List.length_append, by8_length, List.length_nil, List.length_replicate]; omega) rfl ?_; intro v2 w2 R2 HR' HM'; clear HM HR; obtain ⟨g, cap, cur, rfl, rfl, hcur⟩ := row_cur 4 (by decide) HR'.out; have HC := Lib.hid hcur; clear hcur HR'; have HM := HM'; clear HM')
    | ((with_reducible apply own_get HM); exact rfl; exact rfl; (with_reducible exact oneU8); (first | with_reducible exact .z | with_reducible exact .s .z); (first | exact HC0.out cur HC.out | exact HC1.out cur HC.out); exact rfl))
  go_ret2
  exact ⟨rfl, Own.fin HM⟩
set_option maxRecDepth 100000 in
set_option maxHeartbeats 3200000 in
theorem page_253_x (v : Value) (bs : List Nat) (hl : bs.length < 10000) (d : Nat) (h0 : bs.getD 0 0 = 253) (h1 : bs.getD 1 0 = d) (n1 : d ≠ 221) (n2 : d ≠ 237) (n3 : d ≠ 253) (n4 : d ≠ 203) (w : World) (hR0 : Rd w v (by8 bs)) : Calls Tryz.prog 38 #[v] w fun e w' => e = .returned (.tuple #[.int .i64 (4), .int .i64 1]) ∧ Below w.heap.size w w' := by
  have hR : Hid (Rd w v (by8 bs)) := hR0
  have HC0 : Hid (∀ cur : List Value, (∀ i < bs.length + 4, cur[i]? = some (.int .u8 ((bs.getD i 0 : Nat) : Int))) → cur[0]? = some (.int .u8 253)) := by
    intro cur h
    have := h 0 (by omega)
    rw [h0] at this
    exact this
  have HC1 : Hid (∀ cur : List Value, (∀ i < bs.length + 4, cur[i]? = some (.int .u8 ((bs.getD i 0 : Nat) : Int))) → cur[1]? = some (.int .u8 (d : Int))) := by
    intro cur h
    have := h 1 (by omega)
    rw [h1] at this
    exact this
  have g221 : ((d : Int) == 221) = false := by rw [beq_eq_false_iff_ne]; omega
  have g237 : ((d : Int) == 237) = false := by rw [beq_eq_false_iff_ne]; omega
  have g253 : ((d : Int) == 253) = false := by rw [beq_eq_false_iff_ne]; omega
  have g203 : ((d : Int) == 203) = false := by rw [beq_eq_false_iff_ne]; omega
  obtain ⟨i0, hi, hz0, hz1, hz2⟩ := u8_parts
  have HI := Lib.hid hi
  have HZ0 := Lib.hid hz0
  have HZ1 := Lib.hid hz1
  have HZ2 := Lib.hid hz2
  clear hi hz0 hz1 hz2 hR0 h0 h1
  have HM := Lib.hid (Own.start w)
  have tg1 : Hid True := trivial
  go_enter Tryz.func38, Tryz.ntmps38
  go_wp2_with (first
    | ((with_reducible apply own_made (cs := []) (e := 5) (n := 0) HM); exact rfl; exact madeB0; (focus (go_simp; done)); exact rfl; clear tg1; intro w' g1 HM'; clear HM; have HM := HM'; clear HM'; have HR : Hid (RowIs 5 [(g1, 5, [])] (.slice (some ⟨g1, 0, none⟩) 0 0) []) := RowIs.made)
    | (refine own_app Tryz.underlying30 HI.out HZ0.out HZ1.out HZ2.out rfl (by decide) HM HR (List.Sublist.refl _) rfl rfl rfl (Rd.own hR HM) (by8_one bs) (by rw [by8_length]; simp only [List.length_nil]; omega) rfl ?_; intro v1 w1 R1 HR' HM'; clear HM HR; have HM := HM'; have HR := HR'; clear HM' HR')
    | ((with_reducible apply own_made (cs := by8 (List.replicate 4 0)) (e := 5) (n := 4) HM); exact rfl; exact madeB4; (focus (go_simp; done)); exact rfl; intro w' g2 HM'; clear HM; have HM := HM'; clear HM')
    | (refine own_app Tryz.underlying30 HI.out HZ0.out HZ1.out HZ2.out rfl (by decide) HM HR (List.sublist_cons_self _ _) rfl rfl rfl (Rd.ofWhole (HM.out.at_ .z) rfl) (by8_one _) (by simp only [List.length_append, by8_length, List.length_nil, List.length_replicate]; omega) rfl ?_; intro v2 w2 R2 HR' HM'; clear HM HR; obtain ⟨g, cap, cur, rfl, rfl, hcur⟩ := row_cur 4 (by decide) HR'.out; have HC := Lib.hid hcur; clear hcur HR'; have HM := HM'; clear HM')
    | ((with_reducible apply own_get HM); exact rfl; exact rfl; (with_reducible exact oneU8); (first | with_reducible exact .z | with_reducible exact .s .z); (first | exact HC0.out cur HC.out | exact HC1.out cur HC.out); exact rfl))
  go_ret2
  exact ⟨rfl, Own.fin HM⟩
set_option maxRecDepth 100000 in
set_option maxHeartbeats 3200000 in
theorem page_x (v : Value) (bs : List Nat) (hl : bs.length < 10000) (a d : Nat) (h0 : bs.getD 0 0 = a) (h1 : bs.getD 1 0 = d) (n1 : a ≠ 221) (n2 : a ≠ 237) (n3 : a ≠ 253) (n4 : a ≠ 203) (w : World) (hR0 : Rd w v (by8 bs)) : Calls Tryz.prog 38 #[v] w fun e w' => e = .returned (.tuple #[.int .i64 (0), .int .i64 0]) ∧ Below w.heap.size w w' := by
  have hR : Hid (Rd w v (by8 bs)) := hR0
  have HC0 : Hid (∀ cur : List Value, (∀ i < bs.length + 4, cur[i]? = some (.int .u8 ((bs.getD i 0 : Nat) : Int))) → cur[0]? = some (.int .u8 (a : Int))) := by
    intro cur h
    have := h 0 (by omega)
    rw [h0] at this
    exact this
  have HC1 : Hid (∀ cur : List Value, (∀ i < bs.length + 4, cur[i]? = some (.int .u8 ((bs.getD i 0 : Nat) : Int))) → cur[1]? = some (.int .u8 (d : Int))) := by
    intro cur h
    have := h 1 (by omega)
    rw [h1] at this
    exact this
  have g221 : ((a : Int) == 221) = false := by rw [beq_eq_false_iff_ne]; omega
  have g237 : ((a : Int) == 237) = false := by rw [beq_eq_false_iff_ne]; omega
  have g253 : ((a : Int) == 253) = false := by rw [beq_eq_false_iff_ne]; omega
  have g203 : ((a : Int) == 203) = false := by rw [beq_eq_false_iff_ne]; omega
  obtain ⟨i0, hi, hz0, hz1, hz2⟩ := u8_parts
  have HI := Lib.hid hi
  have HZ0 := Lib.hid hz0
  have HZ1 := Lib.hid hz1
  have HZ2 := Lib.hid hz2
  clear hi hz0 hz1 hz2 hR0 h0 h1
  have HM := Lib.hid (Own.start w)
  have tg1 : Hid True := trivial
  go_enter Tryz.func38, Tryz.ntmps38
  go_wp2_with (first
    | ((with_reducible apply own_made (cs := []) (e := 5) (n := 0) HM); exact rfl; exact madeB0; (focus (go_simp; done)); exact rfl; clear tg1; intro w' g1 HM'; clear HM; have HM := HM'; clear HM'; have HR : Hid (RowIs 5 [(g1, 5, [])] (.slice (some ⟨g1, 0, none⟩) 0 0) []) := RowIs.made)
    | (refine own_app Tryz.underlying30 HI.out HZ0.out HZ1.out HZ2.out rfl (by decide) HM HR (List.Sublist.refl _) rfl rfl rfl (Rd.own hR HM) (by8_one bs) (by rw [by8_length]; simp only [List.length_nil]; omega) rfl ?_; intro v1 w1 R1 HR' HM'; clear HM HR; have HM := HM'; have HR := HR'; clear HM' HR')
    | ((with_reducible apply own_made (cs := by8 (List.replicate 4 0)) (e := 5) (n := 4) HM); exact rfl; exact madeB4; (focus (go_simp; done)); exact rfl; intro w' g2 HM'; clear HM; have HM := HM'; clear HM')
    | (refine own_app Tryz.underlying30 HI.out HZ0.out HZ1.out HZ2.out rfl (by decide) HM HR (List.sublist_cons_self _ _) rfl rfl rfl (Rd.ofWhole (HM.out.at_ .z) rfl) (by8_one _) (by simp only [List.length_append, by8_length, List.length_nil, List.length_replicate]; omega) rfl ?_; intro v2 w2 R2 HR' HM'; clear HM HR; obtain ⟨g, cap, cur, rfl, rfl, hcur⟩ := row_cur 4 (by decide) HR'.out; have HC := Lib.hid hcur; clear hcur HR'; have HM := HM'; clear HM')
    | ((with_reducible apply own_get HM); exact rfl; exact rfl; (with_reducible exact oneU8); (first | with_reducible exact .z | with_reducible exact .s .z); (first | exact HC0.out cur HC.out | exact HC1.out cur HC.out); exact rfl))
  go_ret2
  exact ⟨rfl, Own.fin HM⟩
theorem page_at (v : Value) (bs : List Nat) (hl : bs.length < 10000) (w : World) (hR : Rd w v (by8 bs)) : Calls Tryz.prog 38 #[v] w fun e w' => e = .returned (.tuple #[.int .i64 (rPage (bs.getD 0 0) (bs.getD 1 0)).1, .int .i64 ((rPage (bs.getD 0 0) (bs.getD 1 0)).2 : Int)]) ∧ Below w.heap.size w w' := by
  obtain ⟨a, ha⟩ : ∃ a, bs.getD 0 0 = a := ⟨_, rfl⟩
  obtain ⟨d, hd⟩ : ∃ d, bs.getD 1 0 = d := ⟨_, rfl⟩
  rw [ha, hd]
  by_cases h1 : a = 203
  · subst h1; exact page_203 v bs hl d ha hd w hR
  · by_cases h2 : a = 237
    · subst h2; exact page_237 v bs hl d ha hd w hR
    · by_cases h3 : a = 221
      · subst h3
        by_cases k1 : d = 221
        · subst k1; exact page_221_221 v bs hl ha hd w hR
        · by_cases k2 : d = 237
          · subst k2; exact page_221_237 v bs hl ha hd w hR
          · by_cases k3 : d = 253
            · subst k3; exact page_221_253 v bs hl ha hd w hR
            · by_cases k4 : d = 203
              · subst k4; exact page_221_203 v bs hl ha hd w hR
              · have e : rPage 221 d = (3, 1) := by show rBehind d 3 = _; rw [rBehind, if_neg (by omega), if_neg k4]
                rw [e]; exact page_221_x v bs hl d ha hd k1 k2 k3 k4 w hR
      · by_cases h4 : a = 253
        · subst h4
          by_cases k1 : d = 221
          · subst k1; exact page_253_221 v bs hl ha hd w hR
          · by_cases k2 : d = 237
            · subst k2; exact page_253_237 v bs hl ha hd w hR
            · by_cases k3 : d = 253
              · subst k3; exact page_253_253 v bs hl ha hd w hR
              · by_cases k4 : d = 203
                · subst k4; exact page_253_203 v bs hl ha hd w hR
                · have e : rPage 253 d = (4, 1) := by show rBehind d 4 = _; rw [rBehind, if_neg (by omega), if_neg k4]
                  rw [e]; exact page_253_x v bs hl d ha hd k1 k2 k3 k4 w hR
        · have e : rPage a d = (0, 0) := by rw [rPage, if_neg h1, if_neg h2, if_neg h3, if_neg h4]
          rw [e]; exact page_x v bs hl a d ha hd h3 h2 h4 h1 w hR
end Go.Proofs.YtljjgakfnajifaaGreatDoor
