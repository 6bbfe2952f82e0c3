import Derived.Test.YtijjigacmmhloaaQ7
import Derived.Test.YtijjigacmmhloaaQ8
namespace Go.Proofs.Ytijjigacmmhloaa
open Go.RowKit
def spFK (G : Nat → Nat → Nat) (T : List Nat) (k : Nat) : Nat → Nat := fun x => spCol ((T.take k).map (G x))
def spCK (G : Nat → Nat → Nat) (T : List Nat) (k : Nat) : Bool := (List.range 256).any fun x => decide (2 ≤ spCnt ((T.take k).map (G x)))
theorem spFK_0 (G : Nat → Nat → Nat) (T : List Nat) : spFK G T 0 = fun _ => 0 := by funext x; unfold spFK; rw [List.take_zero]; rfl
theorem spCK_0 (G : Nat → Nat → Nat) (T : List Nat) : spCK G T 0 = false := by
  unfold spCK
  rw [List.any_eq_false]
  intro x _ h
  rw [List.take_zero] at h
  exact absurd (of_decide_eq_true h) (by show ¬ 2 ≤ spCnt []; decide)
theorem take_one {T : List Nat} {k i : Nat} (h : T[k]? = some i) : T.take (k + 1) = T.take k ++ [i] := by
  rw [List.take_add_one, h]; rfl
theorem spFrom_bot {Y : Nat → Nat} {h : Nat} {line : Int} : ∀ k i, ∀ x ∈ spFrom Y h line k i, line < spTop (Y x) + h
  | 0, _, x, hx => by simp [spFrom] at hx
  | k + 1, i, x, hx => by
    have hx' : x ∈ (if Y i = 208 then [] else if spIs h line (Y i) = true then i :: spFrom Y h line k (i + 1) else spFrom Y h line k (i + 1)) := hx
    split at hx'
    · simp at hx'
    · split at hx'
      · rename_i h1 h2
        rcases List.mem_cons.1 hx' with rfl | hx'
        · unfold spIs at h2; simp at h2; exact h2.2
        · exact spFrom_bot k (i + 1) x hx'
      · exact spFrom_bot k (i + 1) x hx'
theorem spL_mem {n : Nat} {xs : Nat → Nat} {r1 r5 i : Nat} {line : Int} (h : i ∈ (spL n xs r1 r5 line).take 8) : i < 64 ∧ spTop (mem n xs (spBase r5 + i)) ≤ line ∧ line < spTop (mem n xs (spBase r5 + i)) + (spH r1 : Nat) := by
  have h1 := List.mem_of_mem_take h
  exact ⟨by have := (spFrom_lt _ _ _ 64 0 i h1).2; omega, spFrom_top 64 0 i h1, spFrom_bot 64 0 i h1⟩
theorem dot_lay (n : Nat) (xs : Nat → Nat) (r0 r1 r5 r6 : Nat) (line : Int) (i y X t s : Nat) (x : Int) (hY : mem n xs (spBase r5 + i) = y) (hX : mem n xs (spBase r5 + 128 + 2 * i) = X) (hT : mem n xs (spBase r5 + 129 + 2 * i) = t) (hs : 1 + r1 % 2 = s) (hx : (X : Int) - 8 * ((r0 / 8 % 2 : Nat) : Int) = x) (D : Nat → Nat) (hD : spRowD n xs r1 r6 line y t = D) (a : Nat) : layD x D s a = spDot n xs r0 r1 r5 r6 line a i := by
  unfold spDot spDotV layD
  rw [hY, hX, hT, ← hD]
  unfold spRowD spNum
  rw [← hx, ← hs]
  split
  · rfl
  · split <;> rfl
theorem rowN_get {t : TypeId} {R : List (Nat × TypeId × List Value)} {p : Option Addr} {m c k i : Nat} {T : List Nat} (h : RowN 1 t R (.slice p m c) m (nts T)) (hi : T[k]? = some i) : ∃ g cur, R = [(g, t, cur)] ∧ p = some ⟨g, 0, none⟩ ∧ cur[k]? = some (.int .i64 (i : Int)) := by
  obtain ⟨hl, ⟨_, _, h0⟩ | ⟨g, cap, cur, hR, hv, h1, h2, h3, h4⟩⟩ := h
  · have := (List.getElem?_eq_some_iff.1 hi).1
    rw [nts_length] at hl
    omega
  · cases hv
    refine ⟨g, cur, hR, rfl, ?_⟩
    have hk : k < m := by have := (List.getElem?_eq_some_iff.1 hi).1; rw [nts_length] at hl; omega
    have e1 : (cur.take (m * 1))[k]? = cur[k]? := by rw [List.getElem?_take, if_pos (by omega)]
    rw [← e1, h4]
    exact nts_get T k i hi
theorem Own.rowN {W0 w w' : World} {l R : List (Nat × TypeId × List Value)} {t : TypeId} {v : Value} {k : Nat} {xs : List Value} (h : Own W0 w l) (hb : Below w.heap.size w w') (hR : RowN 1 t R v k xs) (hW : ∀ x ∈ R, w.heap.size ≤ x.1 ∧ Whole w' x.1 x.2.1 x.2.2) : Own W0 w' (l ++ R) := by
  obtain ⟨_, ⟨rfl, _⟩ | ⟨g, cap, cur, rfl, _⟩⟩ := hR
  · rw [List.append_nil]; exact h.call hb
  · obtain ⟨h1, h2⟩ := hW (g, t, cur) (by simp)
    exact (h.plus hb h1 h2).perm (List.perm_append_singleton _ _).symm
set_option maxRecDepth 100000 in
set_option maxHeartbeats 6400000 in
theorem line_1 (a : Option Addr) (n cap : Nat) (xs : Nat → Nat) (r0 r1 r2 r3 r4 r5 r6 r7 r8 r9 r10 : Nat) (line : Int) (b0 : r0 < 256) (b1 : r1 < 256) (b5 : r5 < 256) (b6 : r6 < 256) (l0 : 0 ≤ line) (l1 : line ≤ 191) (f : Nat → Nat) (o c : Bool) (hf : Hid (spC n xs r0 r1 r5 r6 line = f)) (ho : Hid (spO n xs r1 r5 line = o)) (hc : Hid (spK n xs r0 r1 r5 r6 line = c)) (HS : Hid (1 + r1 % 2 = 1)) (w : World) (hV : ByteRow w a n xs) :
    Calls Try.prog 21 #[.slice a n cap, regsV r0 r1 r2 r3 r4 r5 r6 r7 r8 r9 r10, .int .i64 line] w fun e w' => e = .returned (rowV f o c) ∧ Below w.heap.size w w' := by
  have HM := Lib.hid (Own.start w)
  have tg1 : Hid True := trivial
  have tg2 : Hid True := trivial
  have tg3 : Hid True := trivial
  have HV := Lib.hid hV
  have H0 := Lib.hid b0
  have H1 := Lib.hid b1
  have H5 := Lib.hid b5
  have H6 := Lib.hid b6
  obtain ⟨T, hT⟩ : ∃ T, Hid ((spL n xs r1 r5 line).take 8 = T) := ⟨_, rfl⟩
  obtain ⟨G, hG⟩ : ∃ G, Hid (spDot n xs r0 r1 r5 r6 line = G) := ⟨_, rfl⟩
  obtain ⟨m, hm⟩ : ∃ m, Hid (T.length = m) := ⟨_, rfl⟩
  have m8 : (m : Int) ≤ 8 := by have := hm.out; rw [← hT.out, List.length_take] at this; omega
  have HON : Hid (∀ w', ByteRow w' a n xs → Calls Try.prog 33 #[.slice a n cap, regsV r0 r1 r2 r3 r4 r5 r6 r7 r8 r9 r10, .int .i64 line] w' fun e w'' => ∃ v R, e = .returned (.tuple #[v, .bool o]) ∧ RowN 1 3 R v m (nts T) ∧ (∀ x ∈ R, w'.heap.size ≤ x.1 ∧ Whole w'' x.1 x.2.1 x.2.2) ∧ Below w'.heap.size w' w'') := Lib.hid fun w' hV' => by
    have h := on_own a n cap xs r0 r1 r2 r3 r4 r5 r6 r7 r8 r9 r10 line b1 b5 l0 l1 _ (Lib.hid rfl) w' hV'
    rw [hT.out, hm.out] at h
    rw [← ho.out]
    exact h
  have ef : spFK G T m = f := by rw [← hf.out, ← hm.out]; unfold spFK; rw [List.take_length, ← hT.out, ← hG.out]; rfl
  have ec : spCK G T m = c := by rw [← hc.out, ← hm.out]; unfold spCK; rw [List.take_length, ← hT.out, ← hG.out]; rfl
  have EF := Lib.hid ef
  have EC := Lib.hid ec
  clear hV b0 b1 b5 b6 ef ec hf hc ho
  go_enter Try.func21, Try.ntmps21
  go_upto_region 3 with (first | (go_at_call 33; (with_reducible refine (HON.out _ (HV.out.under (Own.fin HM))).mono ?_); rintro e w' ⟨v, R, rfl, HR, HW, hb⟩; have HM' := Lib.hid (HM.out.rowN hb HR HW); clear HM hb HW; have HM := HM'; clear HM') | ((with_reducible apply own_box HM); exact rfl; (conv => lhs; whnf); exact rfl; exact rfl; (first | (clear tg1 HM; intro w' g1 HM) | (clear tg2 HM; intro w' g2 HM) | (clear tg3 HM; intro w' g3 HM) | (clear tg4 HM; intro w' g4 HM) | (clear HM; intro w' g' HM))) | ((with_reducible apply own_alloc HM); exact rfl; (first | (with_reducible exact zeroRow)); exact rfl; (first | (clear tg1 HM; intro w' g1 HM) | (clear tg2 HM; intro w' g2 HM) | (clear tg3 HM; intro w' g3 HM) | (clear tg4 HM; intro w' g4 HM) | (clear HM; intro w' g' HM))) | ((with_reducible apply own_cell HM); exact rfl; exact rfl; (first | (with_reducible exact oneInt) | (with_reducible exact oneBool) | (with_reducible exact oneU8)); exact sS; exact dS; exact rfl) | ((with_reducible apply own_load HM); exact rfl; exact rfl; (first | (with_reducible exact agg11)); exact sS; exact dS; exact tS; exact rfl) | ((with_reducible apply own_store HM); exact rfl; exact rfl; (conv => lhs; whnf); exact rfl; exact sS; exact vS; exact sS; (first | (with_reducible exact (agg11).size) | (with_reducible exact (oneInt).size) | (with_reducible exact (oneBool).size) | (with_reducible exact (oneU8).size)); exact rfl; exact rfl; exact rfl; exact rfl; clear HM; intro w' HM))
  obtain ⟨p, cp, rfl⟩ := RowN.shape HR
  have HRH := Lib.hid HR
  clear HR HON
  simp only [List.cons_append, List.nil_append] at HM
  go_upto_region 5 with (first | ((with_reducible apply own_rputO HM); exact rfl; exact rfl; exact rfl; exact oneBool; (first | with_reducible exact .z | with_reducible exact .s .z | with_reducible exact .s (.s .z) | with_reducible exact .s (.s (.s .z))); (first | with_reducible exact .z | with_reducible exact .s .z | with_reducible exact .s (.s .z) | with_reducible exact .s (.s (.s .z))); exact rfl; exact rfl; clear HM; intro w' HM) | ((with_reducible apply own_box HM); exact rfl; (conv => lhs; whnf); exact rfl; exact rfl; (first | (clear tg1 HM; intro w' g1 HM) | (clear tg2 HM; intro w' g2 HM) | (clear tg3 HM; intro w' g3 HM) | (clear tg4 HM; intro w' g4 HM) | (clear HM; intro w' g' HM))) | ((with_reducible apply own_alloc HM); exact rfl; (first | (with_reducible exact zeroRow)); exact rfl; (first | (clear tg1 HM; intro w' g1 HM) | (clear tg2 HM; intro w' g2 HM) | (clear tg3 HM; intro w' g3 HM) | (clear tg4 HM; intro w' g4 HM) | (clear HM; intro w' g' HM))) | ((with_reducible apply own_cell HM); exact rfl; exact rfl; (first | (with_reducible exact oneInt) | (with_reducible exact oneBool) | (with_reducible exact oneU8)); exact sS; exact dS; exact rfl) | ((with_reducible apply own_load HM); exact rfl; exact rfl; (first | (with_reducible exact agg11)); exact sS; exact dS; exact tS; exact rfl) | ((with_reducible apply own_store HM); exact rfl; exact rfl; (conv => lhs; whnf); exact rfl; exact sS; exact vS; exact sS; (first | (with_reducible exact (agg11).size) | (with_reducible exact (oneInt).size) | (with_reducible exact (oneBool).size) | (with_reducible exact (oneU8).size)); exact rfl; exact rfl; exact rfl; exact rfl; clear HM; intro w' HM))
  go_loopw [23] (fun iv wr => ∃ k : Nat, k ≤ m ∧ iv = .int .i64 (k : Int) ∧ Hid (Own w wr ((g3, 53, rcells (spFK G T k) o (spCK G T k)) :: (g2, 53, rcells (fun _ => 0) false false) :: (g1, 27, [.int .u8 (r0 : Int), .int .u8 (r1 : Int), .int .u8 (r2 : Int), .int .u8 (r3 : Int), .int .u8 (r4 : Int), .int .u8 (r5 : Int), .int .u8 (r6 : Int), .int .u8 (r7 : Int), .int .u8 (r8 : Int), .int .u8 (r9 : Int), .int .u8 (r10 : Int)]) :: R))) (fun iv _ => m - (intOf iv).toNat)
  case atStart =>
    refine ⟨0, by omega, rfl, ?_⟩
    rw [spFK_0, spCK_0]
    exact HM
  case round =>
    clear HM
    obtain ⟨k, hk, rfl, HM⟩ := hrel
    by_cases hlt : k < m
    · have hlt' : (k : Int) < (m : Int) := by omega
      have HK := Lib.hid hlt
      obtain ⟨i, hi⟩ : ∃ i, T[k]? = some i := ⟨_, List.getElem?_eq_getElem (by rw [hm.out]; exact hlt)⟩
      obtain ⟨gR, cur, rfl, rfl, hcur⟩ := rowN_get HRH.out hi
      have HCU := Lib.hid hcur
      obtain ⟨i64, t0, t1⟩ := spL_mem (n := n) (xs := xs) (r1 := r1) (r5 := r5) (line := line) (i := i) (by rw [hT.out]; exact List.mem_of_getElem? hi)
      obtain ⟨y, hY⟩ : ∃ y, Hid (mem n xs (spBase r5 + i) = y) := ⟨_, rfl⟩
      obtain ⟨X, hX⟩ : ∃ y, Hid (mem n xs (spBase r5 + 128 + 2 * i) = y) := ⟨_, rfl⟩
      obtain ⟨t, ht⟩ : ∃ y, Hid (mem n xs (spBase r5 + 129 + 2 * i) = y) := ⟨_, rfl⟩
      obtain ⟨x, hx⟩ : ∃ x, Hid ((X : Int) - 8 * ((r0 / 8 % 2 : Nat) : Int) = x) := ⟨_, rfl⟩
      obtain ⟨D, hD⟩ : ∃ D, Hid (spRowD n xs r1 r6 line y t = D) := ⟨_, rfl⟩
      have X8 : X < 256 := hX.out ▸ vget_lt HV.out _
      have x0 : -8 ≤ x := by have := hx.out; omega
      have x1 : x ≤ 255 := by have := hx.out; omega
      have XB := Lib.hid (And.intro x0 x1)
      have HD16 : Hid (∀ j, D j < 16) := Lib.hid fun j => hD.out ▸ spRowD_lt _ _ _ _ _ _ _ _
      have hdd := Lib.hid (funext fun b => dot_lay n xs r0 r1 r5 r6 line i y X t 1 x hY.out hX.out ht.out HS.out hx.out D hD.out b)
      rw [hY.out] at t0 t1
      have HI64 := Lib.hid i64
      have HT0 := Lib.hid t0
      have HT1 := Lib.hid t1
      obtain ⟨dd, hdd'⟩ : ∃ dd, Hid (dd = layD x D 1) := ⟨_, rfl⟩
      have eF : spFK G T (k + 1) = layC (spFK G T k) dd := by
        unfold spFK
        rw [take_one hi]
        exact (layC_snoc (T.take k) G i dd fun b => by rw [hdd'.out, ← hG.out]; exact congrFun hdd.out b).symm
      have eC : spCK G T (k + 1) = (spCK G T k || layK (spFK G T k) dd) := by
        unfold spCK spFK
        rw [take_one hi]
        exact (layK_snoc (T.take k) G i dd fun b => by rw [hdd'.out, ← hG.out]; exact congrFun hdd.out b).symm
      have EF1 := Lib.hid eF
      have EC1 := Lib.hid eC
      clear hcur i64 t0 t1 X8 x0 x1 eF eC hdd hi hlt hk
      go_upto_region 7 with (first | ((with_reducible apply own_get HM); exact rfl; exact rfl; exact oneInt; (first | with_reducible exact .z | with_reducible exact .s .z | with_reducible exact .s (.s .z) | with_reducible exact .s (.s (.s .z))); exact HCU.out; exact rfl) | ((with_reducible apply own_box HM); exact rfl; (conv => lhs; whnf); exact rfl; exact rfl; (first | (clear tg1 HM; intro w' g1 HM) | (clear tg2 HM; intro w' g2 HM) | (clear tg3 HM; intro w' g3 HM) | (clear tg4 HM; intro w' g4 HM) | (clear HM; intro w' g' HM))) | ((with_reducible apply own_alloc HM); exact rfl; (first | (with_reducible exact zeroRow)); exact rfl; (first | (clear tg1 HM; intro w' g1 HM) | (clear tg2 HM; intro w' g2 HM) | (clear tg3 HM; intro w' g3 HM) | (clear tg4 HM; intro w' g4 HM) | (clear HM; intro w' g' HM))) | ((with_reducible apply own_cell HM); exact rfl; exact rfl; (first | (with_reducible exact oneInt) | (with_reducible exact oneBool) | (with_reducible exact oneU8)); exact sS; exact dS; exact rfl) | ((with_reducible apply own_load HM); exact rfl; exact rfl; (first | (with_reducible exact agg11)); exact sS; exact dS; exact tS; exact rfl) | ((with_reducible apply own_store HM); exact rfl; exact rfl; (conv => lhs; whnf); exact rfl; exact sS; exact vS; exact sS; (first | (with_reducible exact (agg11).size) | (with_reducible exact (oneInt).size) | (with_reducible exact (oneBool).size) | (with_reducible exact (oneU8).size)); exact rfl; exact rfl; exact rfl; exact rfl; clear HM; intro w' HM))
      (refine own_tail 11 HM (by kernel_rfl) (by kernel_rfl) (by kernel_rfl) ?_; simp only [List.take_succ_cons, List.take_zero, List.drop_succ_cons, List.drop_zero]; (try simp only [Act.put, List.setIfInBounds_toArray, List.set_cons_zero, List.set_cons_succ]); repeat ((fail_if_success (with_reducible refine wpQuiet_nil ?_)); first | go_big_quiet_skip | (go_big_quiet_want; first | ((with_reducible apply quiet_load); exact rfl; (first | (with_reducible exact agg11)); exact sS; exact dS; exact tS; go_big_quiet_op; go_big_quiet_on) | ((with_reducible apply quiet_call); exact fun w => rfl; (focus (go_simp; all_goals with_reducible rfl)); (intro wq HQ; first | (with_reducible exact column_at a n cap xs r0 r1 r2 r3 r4 r5 r6 r7 r8 r9 r10 i H0.out H5.out HI64.out X hX x hx _ (HV.out.under (Own.fin HQ))) | (with_reducible exact dots_at a n cap xs r0 r1 r2 r3 r4 r5 r6 r7 r8 r9 r10 i line H1.out H5.out H6.out HI64.out y t hY ht HT0.out HT1.out D hD _ (HV.out.under (Own.fin HQ))) | (with_reducible exact scale_at r0 r1 r2 r3 r4 r5 r6 r7 r8 r9 r10 H1.out 1 HS _)); go_big_quiet_op; go_big_quiet_on) | (go_big_quiet_op; go_big_quiet_on) | (go_big_quiet_op; refine ⟨_, fun _ _ => rfl, ?_⟩; go_big_quiet_on))))
      refine wpQuiet_nil ?_
      intro w' HM'
      clear HM; have HM := HM'; clear HM'
      go_wp2_with (first | (go_at_call 34; (with_reducible refine (lay_1 g3 (spFK G T k) o (spCK G T k) x D dd XB.out.1 XB.out.2 HD16 hdd' HM).mono ?_); rintro e w' ⟨rfl, HM'⟩; clear HM; have HM := HM'; clear HM') | ((with_reducible apply own_box HM); exact rfl; (conv => lhs; whnf); exact rfl; exact rfl; (first | (clear tg1 HM; intro w' g1 HM) | (clear tg2 HM; intro w' g2 HM) | (clear tg3 HM; intro w' g3 HM) | (clear tg4 HM; intro w' g4 HM) | (clear HM; intro w' g' HM))) | ((with_reducible apply own_alloc HM); exact rfl; (first | (with_reducible exact zeroRow)); exact rfl; (first | (clear tg1 HM; intro w' g1 HM) | (clear tg2 HM; intro w' g2 HM) | (clear tg3 HM; intro w' g3 HM) | (clear tg4 HM; intro w' g4 HM) | (clear HM; intro w' g' HM))) | ((with_reducible apply own_cell HM); exact rfl; exact rfl; (first | (with_reducible exact oneInt) | (with_reducible exact oneBool) | (with_reducible exact oneU8)); exact sS; exact dS; exact rfl) | ((with_reducible apply own_load HM); exact rfl; exact rfl; (first | (with_reducible exact agg11)); exact sS; exact dS; exact tS; exact rfl) | ((with_reducible apply own_store HM); exact rfl; exact rfl; (conv => lhs; whnf); exact rfl; exact sS; exact vS; exact sS; (first | (with_reducible exact (agg11).size) | (with_reducible exact (oneInt).size) | (with_reducible exact (oneBool).size) | (with_reducible exact (oneU8).size)); exact rfl; exact rfl; exact rfl; exact rfl; clear HM; intro w' HM))
      rw [← EF1.out, ← EC1.out] at HM
      go_roundw
      case rel => exact ⟨k + 1, by have := HK.out; omega, by go_num, HM⟩
      case measure => have := HK.out; simp [intOf]; omega
    · obtain rfl : k = m := by omega
      rw [EF.out, EC.out] at HM
      go_wp2_with (first | ((with_reducible apply own_row HM); exact rfl; exact rfl; exact aggRow; (first | with_reducible exact .z | with_reducible exact .s .z | with_reducible exact .s (.s .z) | with_reducible exact .s (.s (.s .z))); exact rfl; exact rcells_length _ _ _) | ((with_reducible apply own_lay HM); exact rfl; exact rfl; exact rfl; (first | with_reducible exact .z | with_reducible exact .s .z | with_reducible exact .s (.s .z) | with_reducible exact .s (.s (.s .z))); (first | with_reducible exact .z | with_reducible exact .s .z | with_reducible exact .s (.s .z) | with_reducible exact .s (.s (.s .z))); exact aggRow.size; exact rcells_length _ _ _; exact rcells_length _ _ _; exact rcells_one _ _ _; exact rfl; exact rfl; clear HM; intro w' HM) | ((with_reducible apply own_box HM); exact rfl; (conv => lhs; whnf); exact rfl; exact rfl; (first | (clear tg1 HM; intro w' g1 HM) | (clear tg2 HM; intro w' g2 HM) | (clear tg3 HM; intro w' g3 HM) | (clear tg4 HM; intro w' g4 HM) | (clear HM; intro w' g' HM))) | ((with_reducible apply own_alloc HM); exact rfl; (first | (with_reducible exact zeroRow)); exact rfl; (first | (clear tg1 HM; intro w' g1 HM) | (clear tg2 HM; intro w' g2 HM) | (clear tg3 HM; intro w' g3 HM) | (clear tg4 HM; intro w' g4 HM) | (clear HM; intro w' g' HM))) | ((with_reducible apply own_cell HM); exact rfl; exact rfl; (first | (with_reducible exact oneInt) | (with_reducible exact oneBool) | (with_reducible exact oneU8)); exact sS; exact dS; exact rfl) | ((with_reducible apply own_load HM); exact rfl; exact rfl; (first | (with_reducible exact agg11)); exact sS; exact dS; exact tS; exact rfl) | ((with_reducible apply own_store HM); exact rfl; exact rfl; (conv => lhs; whnf); exact rfl; exact sS; exact vS; exact sS; (first | (with_reducible exact (agg11).size) | (with_reducible exact (oneInt).size) | (with_reducible exact (oneBool).size) | (with_reducible exact (oneU8).size)); exact rfl; exact rfl; exact rfl; exact rfl; clear HM; intro w' HM))
      refine bodyPost_ret (v := .agg (rcells f o c).toArray) (own_results HM Try.results21 _ rfl (by (first | with_reducible exact .z | with_reducible exact .s .z | with_reducible exact .s (.s .z) | with_reducible exact .s (.s (.s .z)))) (by rw [rcells_length]; exact aggRow)) rfl ⟨rfl, Own.fin HM⟩
set_option maxRecDepth 100000 in
set_option maxHeartbeats 6400000 in
theorem line_2 (a : Option Addr) (n cap : Nat) (xs : Nat → Nat) (r0 r1 r2 r3 r4 r5 r6 r7 r8 r9 r10 : Nat) (line : Int) (b0 : r0 < 256) (b1 : r1 < 256) (b5 : r5 < 256) (b6 : r6 < 256) (l0 : 0 ≤ line) (l1 : line ≤ 191) (f : Nat → Nat) (o c : Bool) (hf : Hid (spC n xs r0 r1 r5 r6 line = f)) (ho : Hid (spO n xs r1 r5 line = o)) (hc : Hid (spK n xs r0 r1 r5 r6 line = c)) (HS : Hid (1 + r1 % 2 = 2)) (w : World) (hV : ByteRow w a n xs) :
    Calls Try.prog 21 #[.slice a n cap, regsV r0 r1 r2 r3 r4 r5 r6 r7 r8 r9 r10, .int .i64 line] w fun e w' => e = .returned (rowV f o c) ∧ Below w.heap.size w w' := by
  have HM := Lib.hid (Own.start w)
  have tg1 : Hid True := trivial
  have tg2 : Hid True := trivial
  have tg3 : Hid True := trivial
  have HV := Lib.hid hV
  have H0 := Lib.hid b0
  have H1 := Lib.hid b1
  have H5 := Lib.hid b5
  have H6 := Lib.hid b6
  obtain ⟨T, hT⟩ : ∃ T, Hid ((spL n xs r1 r5 line).take 8 = T) := ⟨_, rfl⟩
  obtain ⟨G, hG⟩ : ∃ G, Hid (spDot n xs r0 r1 r5 r6 line = G) := ⟨_, rfl⟩
  obtain ⟨m, hm⟩ : ∃ m, Hid (T.length = m) := ⟨_, rfl⟩
  have m8 : (m : Int) ≤ 8 := by have := hm.out; rw [← hT.out, List.length_take] at this; omega
  have HON : Hid (∀ w', ByteRow w' a n xs → Calls Try.prog 33 #[.slice a n cap, regsV r0 r1 r2 r3 r4 r5 r6 r7 r8 r9 r10, .int .i64 line] w' fun e w'' => ∃ v R, e = .returned (.tuple #[v, .bool o]) ∧ RowN 1 3 R v m (nts T) ∧ (∀ x ∈ R, w'.heap.size ≤ x.1 ∧ Whole w'' x.1 x.2.1 x.2.2) ∧ Below w'.heap.size w' w'') := Lib.hid fun w' hV' => by
    have h := on_own a n cap xs r0 r1 r2 r3 r4 r5 r6 r7 r8 r9 r10 line b1 b5 l0 l1 _ (Lib.hid rfl) w' hV'
    rw [hT.out, hm.out] at h
    rw [← ho.out]
    exact h
  have ef : spFK G T m = f := by rw [← hf.out, ← hm.out]; unfold spFK; rw [List.take_length, ← hT.out, ← hG.out]; rfl
  have ec : spCK G T m = c := by rw [← hc.out, ← hm.out]; unfold spCK; rw [List.take_length, ← hT.out, ← hG.out]; rfl
  have EF := Lib.hid ef
  have EC := Lib.hid ec
  clear hV b0 b1 b5 b6 ef ec hf hc ho
  go_enter Try.func21, Try.ntmps21
  go_upto_region 3 with (first | (go_at_call 33; (with_reducible refine (HON.out _ (HV.out.under (Own.fin HM))).mono ?_); rintro e w' ⟨v, R, rfl, HR, HW, hb⟩; have HM' := Lib.hid (HM.out.rowN hb HR HW); clear HM hb HW; have HM := HM'; clear HM') | ((with_reducible apply own_box HM); exact rfl; (conv => lhs; whnf); exact rfl; exact rfl; (first | (clear tg1 HM; intro w' g1 HM) | (clear tg2 HM; intro w' g2 HM) | (clear tg3 HM; intro w' g3 HM) | (clear tg4 HM; intro w' g4 HM) | (clear HM; intro w' g' HM))) | ((with_reducible apply own_alloc HM); exact rfl; (first | (with_reducible exact zeroRow)); exact rfl; (first | (clear tg1 HM; intro w' g1 HM) | (clear tg2 HM; intro w' g2 HM) | (clear tg3 HM; intro w' g3 HM) | (clear tg4 HM; intro w' g4 HM) | (clear HM; intro w' g' HM))) | ((with_reducible apply own_cell HM); exact rfl; exact rfl; (first | (with_reducible exact oneInt) | (with_reducible exact oneBool) | (with_reducible exact oneU8)); exact sS; exact dS; exact rfl) | ((with_reducible apply own_load HM); exact rfl; exact rfl; (first | (with_reducible exact agg11)); exact sS; exact dS; exact tS; exact rfl) | ((with_reducible apply own_store HM); exact rfl; exact rfl; (conv => lhs; whnf); exact rfl; exact sS; exact vS; exact sS; (first | (with_reducible exact (agg11).size) | (with_reducible exact (oneInt).size) | (with_reducible exact (oneBool).size) | (with_reducible exact (oneU8).size)); exact rfl; exact rfl; exact rfl; exact rfl; clear HM; intro w' HM))
  obtain ⟨p, cp, rfl⟩ := RowN.shape HR
  have HRH := Lib.hid HR
  clear HR HON
  simp only [List.cons_append, List.nil_append] at HM
  go_upto_region 5 with (first | ((with_reducible apply own_rputO HM); exact rfl; exact rfl; exact rfl; exact oneBool; (first | with_reducible exact .z | with_reducible exact .s .z | with_reducible exact .s (.s .z) | with_reducible exact .s (.s (.s .z))); (first | with_reducible exact .z | with_reducible exact .s .z | with_reducible exact .s (.s .z) | with_reducible exact .s (.s (.s .z))); exact rfl; exact rfl; clear HM; intro w' HM) | ((with_reducible apply own_box HM); exact rfl; (conv => lhs; whnf); exact rfl; exact rfl; (first | (clear tg1 HM; intro w' g1 HM) | (clear tg2 HM; intro w' g2 HM) | (clear tg3 HM; intro w' g3 HM) | (clear tg4 HM; intro w' g4 HM) | (clear HM; intro w' g' HM))) | ((with_reducible apply own_alloc HM); exact rfl; (first | (with_reducible exact zeroRow)); exact rfl; (first | (clear tg1 HM; intro w' g1 HM) | (clear tg2 HM; intro w' g2 HM) | (clear tg3 HM; intro w' g3 HM) | (clear tg4 HM; intro w' g4 HM) | (clear HM; intro w' g' HM))) | ((with_reducible apply own_cell HM); exact rfl; exact rfl; (first | (with_reducible exact oneInt) | (with_reducible exact oneBool) | (with_reducible exact oneU8)); exact sS; exact dS; exact rfl) | ((with_reducible apply own_load HM); exact rfl; exact rfl; (first | (with_reducible exact agg11)); exact sS; exact dS; exact tS; exact rfl) | ((with_reducible apply own_store HM); exact rfl; exact rfl; (conv => lhs; whnf); exact rfl; exact sS; exact vS; exact sS; (first | (with_reducible exact (agg11).size) | (with_reducible exact (oneInt).size) | (with_reducible exact (oneBool).size) | (with_reducible exact (oneU8).size)); exact rfl; exact rfl; exact rfl; exact rfl; clear HM; intro w' HM))
  go_loopw [23] (fun iv wr => ∃ k : Nat, k ≤ m ∧ iv = .int .i64 (k : Int) ∧ Hid (Own w wr ((g3, 53, rcells (spFK G T k) o (spCK G T k)) :: (g2, 53, rcells (fun _ => 0) false false) :: (g1, 27, [.int .u8 (r0 : Int), .int .u8 (r1 : Int), .int .u8 (r2 : Int), .int .u8 (r3 : Int), .int .u8 (r4 : Int), .int .u8 (r5 : Int), .int .u8 (r6 : Int), .int .u8 (r7 : Int), .int .u8 (r8 : Int), .int .u8 (r9 : Int), .int .u8 (r10 : Int)]) :: R))) (fun iv _ => m - (intOf iv).toNat)
  case atStart =>
    refine ⟨0, by omega, rfl, ?_⟩
    rw [spFK_0, spCK_0]
    exact HM
  case round =>
    clear HM
    obtain ⟨k, hk, rfl, HM⟩ := hrel
    by_cases hlt : k < m
    · have hlt' : (k : Int) < (m : Int) := by omega
      have HK := Lib.hid hlt
      obtain ⟨i, hi⟩ : ∃ i, T[k]? = some i := ⟨_, List.getElem?_eq_getElem (by rw [hm.out]; exact hlt)⟩
      obtain ⟨gR, cur, rfl, rfl, hcur⟩ := rowN_get HRH.out hi
      have HCU := Lib.hid hcur
      obtain ⟨i64, t0, t1⟩ := spL_mem (n := n) (xs := xs) (r1 := r1) (r5 := r5) (line := line) (i := i) (by rw [hT.out]; exact List.mem_of_getElem? hi)
      obtain ⟨y, hY⟩ : ∃ y, Hid (mem n xs (spBase r5 + i) = y) := ⟨_, rfl⟩
      obtain ⟨X, hX⟩ : ∃ y, Hid (mem n xs (spBase r5 + 128 + 2 * i) = y) := ⟨_, rfl⟩
      obtain ⟨t, ht⟩ : ∃ y, Hid (mem n xs (spBase r5 + 129 + 2 * i) = y) := ⟨_, rfl⟩
      obtain ⟨x, hx⟩ : ∃ x, Hid ((X : Int) - 8 * ((r0 / 8 % 2 : Nat) : Int) = x) := ⟨_, rfl⟩
      obtain ⟨D, hD⟩ : ∃ D, Hid (spRowD n xs r1 r6 line y t = D) := ⟨_, rfl⟩
      have X8 : X < 256 := hX.out ▸ vget_lt HV.out _
      have x0 : -8 ≤ x := by have := hx.out; omega
      have x1 : x ≤ 255 := by have := hx.out; omega
      have XB := Lib.hid (And.intro x0 x1)
      have HD16 : Hid (∀ j, D j < 16) := Lib.hid fun j => hD.out ▸ spRowD_lt _ _ _ _ _ _ _ _
      have hdd := Lib.hid (funext fun b => dot_lay n xs r0 r1 r5 r6 line i y X t 2 x hY.out hX.out ht.out HS.out hx.out D hD.out b)
      rw [hY.out] at t0 t1
      have HI64 := Lib.hid i64
      have HT0 := Lib.hid t0
      have HT1 := Lib.hid t1
      obtain ⟨dd, hdd'⟩ : ∃ dd, Hid (dd = layD x D 2) := ⟨_, rfl⟩
      have eF : spFK G T (k + 1) = layC (spFK G T k) dd := by
        unfold spFK
        rw [take_one hi]
        exact (layC_snoc (T.take k) G i dd fun b => by rw [hdd'.out, ← hG.out]; exact congrFun hdd.out b).symm
      have eC : spCK G T (k + 1) = (spCK G T k || layK (spFK G T k) dd) := by
        unfold spCK spFK
        rw [take_one hi]
        exact (layK_snoc (T.take k) G i dd fun b => by rw [hdd'.out, ← hG.out]; exact congrFun hdd.out b).symm
      have EF1 := Lib.hid eF
      have EC1 := Lib.hid eC
      clear hcur i64 t0 t1 X8 x0 x1 eF eC hdd hi hlt hk
      go_upto_region 7 with (first | ((with_reducible apply own_get HM); exact rfl; exact rfl; exact oneInt; (first | with_reducible exact .z | with_reducible exact .s .z | with_reducible exact .s (.s .z) | with_reducible exact .s (.s (.s .z))); exact HCU.out; exact rfl) | ((with_reducible apply own_box HM); exact rfl; (conv => lhs; whnf); exact rfl; exact rfl; (first | (clear tg1 HM; intro w' g1 HM) | (clear tg2 HM; intro w' g2 HM) | (clear tg3 HM; intro w' g3 HM) | (clear tg4 HM; intro w' g4 HM) | (clear HM; intro w' g' HM))) | ((with_reducible apply own_alloc HM); exact rfl; (first | (with_reducible exact zeroRow)); exact rfl; (first | (clear tg1 HM; intro w' g1 HM) | (clear tg2 HM; intro w' g2 HM) | (clear tg3 HM; intro w' g3 HM) | (clear tg4 HM; intro w' g4 HM) | (clear HM; intro w' g' HM))) | ((with_reducible apply own_cell HM); exact rfl; exact rfl; (first | (with_reducible exact oneInt) | (with_reducible exact oneBool) | (with_reducible exact oneU8)); exact sS; exact dS; exact rfl) | ((with_reducible apply own_load HM); exact rfl; exact rfl; (first | (with_reducible exact agg11)); exact sS; exact dS; exact tS; exact rfl) | ((with_reducible apply own_store HM); exact rfl; exact rfl; (conv => lhs; whnf); exact rfl; exact sS; exact vS; exact sS; (first | (with_reducible exact (agg11).size) | (with_reducible exact (oneInt).size) | (with_reducible exact (oneBool).size) | (with_reducible exact (oneU8).size)); exact rfl; exact rfl; exact rfl; exact rfl; clear HM; intro w' HM))
      (refine own_tail 11 HM (by kernel_rfl) (by kernel_rfl) (by kernel_rfl) ?_; simp only [List.take_succ_cons, List.take_zero, List.drop_succ_cons, List.drop_zero]; (try simp only [Act.put, List.setIfInBounds_toArray, List.set_cons_zero, List.set_cons_succ]); repeat ((fail_if_success (with_reducible refine wpQuiet_nil ?_)); first | go_big_quiet_skip | (go_big_quiet_want; first | ((with_reducible apply quiet_load); exact rfl; (first | (with_reducible exact agg11)); exact sS; exact dS; exact tS; go_big_quiet_op; go_big_quiet_on) | ((with_reducible apply quiet_call); exact fun w => rfl; (focus (go_simp; all_goals with_reducible rfl)); (intro wq HQ; first | (with_reducible exact column_at a n cap xs r0 r1 r2 r3 r4 r5 r6 r7 r8 r9 r10 i H0.out H5.out HI64.out X hX x hx _ (HV.out.under (Own.fin HQ))) | (with_reducible exact dots_at a n cap xs r0 r1 r2 r3 r4 r5 r6 r7 r8 r9 r10 i line H1.out H5.out H6.out HI64.out y t hY ht HT0.out HT1.out D hD _ (HV.out.under (Own.fin HQ))) | (with_reducible exact scale_at r0 r1 r2 r3 r4 r5 r6 r7 r8 r9 r10 H1.out 2 HS _)); go_big_quiet_op; go_big_quiet_on) | (go_big_quiet_op; go_big_quiet_on) | (go_big_quiet_op; refine ⟨_, fun _ _ => rfl, ?_⟩; go_big_quiet_on))))
      refine wpQuiet_nil ?_
      intro w' HM'
      clear HM; have HM := HM'; clear HM'
      go_wp2_with (first | (go_at_call 34; (with_reducible refine (lay_2 g3 (spFK G T k) o (spCK G T k) x D dd XB.out.1 XB.out.2 HD16 hdd' HM).mono ?_); rintro e w' ⟨rfl, HM'⟩; clear HM; have HM := HM'; clear HM') | ((with_reducible apply own_box HM); exact rfl; (conv => lhs; whnf); exact rfl; exact rfl; (first | (clear tg1 HM; intro w' g1 HM) | (clear tg2 HM; intro w' g2 HM) | (clear tg3 HM; intro w' g3 HM) | (clear tg4 HM; intro w' g4 HM) | (clear HM; intro w' g' HM))) | ((with_reducible apply own_alloc HM); exact rfl; (first | (with_reducible exact zeroRow)); exact rfl; (first | (clear tg1 HM; intro w' g1 HM) | (clear tg2 HM; intro w' g2 HM) | (clear tg3 HM; intro w' g3 HM) | (clear tg4 HM; intro w' g4 HM) | (clear HM; intro w' g' HM))) | ((with_reducible apply own_cell HM); exact rfl; exact rfl; (first | (with_reducible exact oneInt) | (with_reducible exact oneBool) | (with_reducible exact oneU8)); exact sS; exact dS; exact rfl) | ((with_reducible apply own_load HM); exact rfl; exact rfl; (first | (with_reducible exact agg11)); exact sS; exact dS; exact tS; exact rfl) | ((with_reducible apply own_store HM); exact rfl; exact rfl; (conv => lhs; whnf); exact rfl; exact sS; exact vS; exact sS; (first | (with_reducible exact (agg11).size) | (with_reducible exact (oneInt).size) | (with_reducible exact (oneBool).size) | (with_reducible exact (oneU8).size)); exact rfl; exact rfl; exact rfl; exact rfl; clear HM; intro w' HM))
      rw [← EF1.out, ← EC1.out] at HM
      go_roundw
      case rel => exact ⟨k + 1, by have := HK.out; omega, by go_num, HM⟩
      case measure => have := HK.out; simp [intOf]; omega
    · obtain rfl : k = m := by omega
      rw [EF.out, EC.out] at HM
      go_wp2_with (first | ((with_reducible apply own_row HM); exact rfl; exact rfl; exact aggRow; (first | with_reducible exact .z | with_reducible exact .s .z | with_reducible exact .s (.s .z) | with_reducible exact .s (.s (.s .z))); exact rfl; exact rcells_length _ _ _) | ((with_reducible apply own_lay HM); exact rfl; exact rfl; exact rfl; (first | with_reducible exact .z | with_reducible exact .s .z | with_reducible exact .s (.s .z) | with_reducible exact .s (.s (.s .z))); (first | with_reducible exact .z | with_reducible exact .s .z | with_reducible exact .s (.s .z) | with_reducible exact .s (.s (.s .z))); exact aggRow.size; exact rcells_length _ _ _; exact rcells_length _ _ _; exact rcells_one _ _ _; exact rfl; exact rfl; clear HM; intro w' HM) | ((with_reducible apply own_box HM); exact rfl; (conv => lhs; whnf); exact rfl; exact rfl; (first | (clear tg1 HM; intro w' g1 HM) | (clear tg2 HM; intro w' g2 HM) | (clear tg3 HM; intro w' g3 HM) | (clear tg4 HM; intro w' g4 HM) | (clear HM; intro w' g' HM))) | ((with_reducible apply own_alloc HM); exact rfl; (first | (with_reducible exact zeroRow)); exact rfl; (first | (clear tg1 HM; intro w' g1 HM) | (clear tg2 HM; intro w' g2 HM) | (clear tg3 HM; intro w' g3 HM) | (clear tg4 HM; intro w' g4 HM) | (clear HM; intro w' g' HM))) | ((with_reducible apply own_cell HM); exact rfl; exact rfl; (first | (with_reducible exact oneInt) | (with_reducible exact oneBool) | (with_reducible exact oneU8)); exact sS; exact dS; exact rfl) | ((with_reducible apply own_load HM); exact rfl; exact rfl; (first | (with_reducible exact agg11)); exact sS; exact dS; exact tS; exact rfl) | ((with_reducible apply own_store HM); exact rfl; exact rfl; (conv => lhs; whnf); exact rfl; exact sS; exact vS; exact sS; (first | (with_reducible exact (agg11).size) | (with_reducible exact (oneInt).size) | (with_reducible exact (oneBool).size) | (with_reducible exact (oneU8).size)); exact rfl; exact rfl; exact rfl; exact rfl; clear HM; intro w' HM))
      refine bodyPost_ret (v := .agg (rcells f o c).toArray) (own_results HM Try.results21 _ rfl (by (first | with_reducible exact .z | with_reducible exact .s .z | with_reducible exact .s (.s .z) | with_reducible exact .s (.s (.s .z)))) (by rw [rcells_length]; exact aggRow)) rfl ⟨rfl, Own.fin HM⟩
theorem line_in (a : Option Addr) (n cap : Nat) (xs : Nat → Nat) (r0 r1 r2 r3 r4 r5 r6 r7 r8 r9 r10 : Nat) (line : Int) (b0 : r0 < 256) (b1 : r1 < 256) (b5 : r5 < 256) (b6 : r6 < 256) (l0 : 0 ≤ line) (l1 : line ≤ 191) (f : Nat → Nat) (o c : Bool) (hf : Hid (spC n xs r0 r1 r5 r6 line = f)) (ho : Hid (spO n xs r1 r5 line = o)) (hc : Hid (spK n xs r0 r1 r5 r6 line = c)) (w : World) (hV : ByteRow w a n xs) :
    Calls Try.prog 21 #[.slice a n cap, regsV r0 r1 r2 r3 r4 r5 r6 r7 r8 r9 r10, .int .i64 line] w fun e w' => e = .returned (rowV f o c) ∧ Below w.heap.size w w' :=
  (show r1 % 2 = 0 ∨ r1 % 2 = 1 by omega).elim
    (fun h => line_1 a n cap xs r0 r1 r2 r3 r4 r5 r6 r7 r8 r9 r10 line b0 b1 b5 b6 l0 l1 f o c hf ho hc (by show _ = _; rw [h]) w hV)
    fun h => line_2 a n cap xs r0 r1 r2 r3 r4 r5 r6 r7 r8 r9 r10 line b0 b1 b5 b6 l0 l1 f o c hf ho hc (by show _ = _; rw [h]) w hV
theorem built_by {P : Program} {w : World} {ops : Array Oper} {rest : List Oper} {o : Oper} {a : Act} {Q : Exit → Act → World → Prop} {t : TypeId} {parts : Array (Nat × Operand)} {v : Value} {parts' : Array (Nat × Value)} (hx : ∀ w, (Instr.build t parts').run P w = .ok v w)
    (ho : o.op = .build t parts) (hp : (parts.map fun (i, x) => (i, a.eval x)) = parts') (hw : Region.wanted o (yielded ops a.tmps) = true) (h : wpList P ops Q rest (a.put o.dst v) w) : wpList P ops Q (o :: rest) a w := by
  refine wpList_wanted hw fun K hK => ?_
  unfold Oper.wp execOp
  simp only [ho, Sem.run_bind, hp, hx, Result.andThen_ok]
  exact hK _ _ h
theorem aggPL : Agg Try.prog 25 258 := ⟨⟨_, Try.underlying25, rfl⟩, by kernel_rfl⟩
theorem zeroPL : Zero Try.prog 25 (rcells (fun _ => 0) false false) := ⟨rowV (fun _ => 0) false false, fun _ => by kernel_rfl, rfl⟩
theorem built_p (w : World) : (Instr.build 25 #[]).run Try.prog w = .ok (rowV (fun _ => 0) false false) w := by kernel_rfl
theorem pext1 (f : Nat → Nat) (o c : Bool) (i : Nat) (h : i < 256) : ((rcells f o c).toArray.extract 0 (0 + 256))[i]? = some (.int .u8 (f i : Int)) := by
  rw [Array.getElem?_extract]
  have := rcells_color f o c i h
  have hl := rcells_length f o c
  simp [hl, h, this]
theorem part_one {P : Program} {t : TypeId} (xs : Array Value) (off : Nat) (v : Value) (h : ∃ d, P.underlying t = some d ∧ d.isRow = false) (hv : xs[off]? = some v) (w : World) : (part t xs off).run P w = .ok v w := by
  obtain ⟨d, hu, hd⟩ := h
  have hagg : (isAgg t).run P w = .ok false w := by
    unfold isAgg
    rw [Sem.run_bind, run_underlying hu w]
    cases d <;> simp_all [TypeDesc.isRow]
  simp [part, Sem.run_bind, hagg, hv]
theorem same_p (f_ : Nat → Nat) (o c : Bool) (w : World) : (Op.equalIn 10000 25 (rowV f_ o c) (rowV f_ o c)).run Try.prog w = .ok true w := by
  obtain ⟨i1, hi1⟩ := Option.isSome_iff_exists.1 (show (Try.prog.info? 23).isSome = true by kernel_rfl)
  have hc1 : Try.prog.cellsOf 23 = 256 := by kernel_rfl
  obtain ⟨i3, hi3⟩ := Option.isSome_iff_exists.1 (show (Try.prog.info? 5).isSome = true by kernel_rfl)
  have hf : (Try.prog.fieldsOf 25).toList.map (fun f => (f.type, f.offset)) = [(23, 0), (4, 256), (4, 257)] := by kernel_rfl
  refine self_struct (d := 9999) _ (by kernel_rfl) (by kernel_rfl) (fun f hm => ?_) w
  have hm' : (f.type, f.offset) ∈ (Try.prog.fieldsOf 25).toList.map (fun f => (f.type, f.offset)) := List.mem_map_of_mem hm
  rw [hf] at hm'
  rcases List.mem_cons.1 hm' with h | h
  · obtain ⟨h1, h2⟩ := Prod.mk.inj h
    rw [h1, h2]
    exact ⟨_, part_array _ 0 256 Try.underlying23 hi1 hc1, self_array _ Try.underlying23 (by kernel_rfl) hi3 (by kernel_rfl) fun i hi => ⟨_, pext1 f_ o c i hi, self_u8 _ Try.underlying5 _⟩⟩
  · rcases List.mem_cons.1 h with h | h
    · obtain ⟨h1, h2⟩ := Prod.mk.inj h
      rw [h1, h2]
      exact ⟨_, part_one _ 256 (.bool o) ⟨_, Try.underlying4, rfl⟩ (by rw [List.getElem?_toArray]; exact rcells_over f_ o c), self_bool _ Try.underlying4 _⟩
    · obtain ⟨h1, h2⟩ := Prod.mk.inj (List.mem_singleton.1 h)
      rw [h1, h2]
      exact ⟨_, part_one _ 257 (.bool c) ⟨_, Try.underlying4, rfl⟩ (by rw [List.getElem?_toArray]; exact rcells_meets f_ o c), self_bool _ Try.underlying4 _⟩
set_option maxRecDepth 100000 in
theorem seen_at (gA gB : Nat) (gc : Nat → Nat) (gf : Nat → Bool) (sf : Nat → Nat) (o k : Bool) {W0 w : World} {l : List (Nat × TypeId × List Value)} (x : Nat) (hx : x < 256) (hs : sf x < 32) (hg : gc x < 32) (r : Nat) (hr : Hid ((if sf x = 0 ∨ gf x = true then gc x else sf x) = r)) (HM : Hid (Own W0 w ((gB, 53, rcells sf o k) :: (gA, 51, gcells gc gf) :: l))) :
    Calls Try.prog 22 #[.pointer (some ⟨gA, 0, none⟩), .pointer (some ⟨gB, 0, none⟩), .int .i64 (x : Int)] w fun e w' => e = .returned (.int .i64 (r : Int)) ∧ w = w' := by
  obtain ⟨sc, hsc⟩ : ∃ z, sf x = z := ⟨_, rfl⟩
  obtain ⟨gg, hgg⟩ : ∃ z, gc x = z := ⟨_, rfl⟩
  obtain ⟨gt, hgt⟩ : ∃ z, gf x = z := ⟨_, rfl⟩
  have er := hr.out
  rw [hsc, hgg, hgt] at er
  rw [hsc] at hs
  rw [hgg] at hg
  have HS : Hid ((rcells sf o k)[x]? = some (.int .u8 (sc : Int))) := Lib.hid (by rw [rcells_color sf o k x hx, hsc])
  have HG : Hid ((gcells gc gf)[x]? = some (.int .u8 (gg : Int))) := Lib.hid (by rw [gcells_color gc gf x hx, hgg])
  have HF : Hid ((gcells gc gf)[256 + x]? = some (.bool gt)) := Lib.hid (by rw [gcells_front gc gf x hx, hgt])
  have s2 : (sc : Int) < 32 := by omega
  have c2 : (gg : Int) < 32 := by omega
  have x2 : (x : Int) < 256 := by omega
  clear hsc hgg hgt hr hx
  by_cases s0 : sc = 0
  · rw [if_pos (.inl s0)] at er
    subst er
    have s1 : ((sc : Int) != 0) = false := by simp; omega
    clear s0 hs hg
    go_enter Try.func22, Try.ntmps22
    go_wp2_with (first | ((with_reducible apply own_get HM); exact rfl; exact rfl; (first | (with_reducible exact oneU8) | (with_reducible exact oneBool)); (first | with_reducible exact .z | with_reducible exact .s .z | with_reducible exact .s (.s .z) | with_reducible exact .s (.s (.s .z))); (first | exact HS.out | exact HG.out | exact HF.out); exact rfl))
    go_ret
    exact ⟨rfl, rfl⟩
  · have s1 : ((sc : Int) != 0) = true := by simp; omega
    rcases Bool.eq_false_or_eq_true gt with g1 | g1
    · rw [if_pos (.inr g1)] at er
      subst er
      clear s0 hs hg
      go_enter Try.func22, Try.ntmps22
      go_wp2_with (first | ((with_reducible apply own_get HM); exact rfl; exact rfl; (first | (with_reducible exact oneU8) | (with_reducible exact oneBool)); (first | with_reducible exact .z | with_reducible exact .s .z | with_reducible exact .s (.s .z) | with_reducible exact .s (.s (.s .z))); (first | exact HS.out | exact HG.out | exact HF.out); exact rfl))
      go_ret
      exact ⟨rfl, rfl⟩
    · rw [if_neg (by simp [s0, g1])] at er
      subst er
      clear s0 hs hg
      go_enter Try.func22, Try.ntmps22
      go_wp2_with (first | ((with_reducible apply own_get HM); exact rfl; exact rfl; (first | (with_reducible exact oneU8) | (with_reducible exact oneBool)); (first | with_reducible exact .z | with_reducible exact .s .z | with_reducible exact .s (.s .z) | with_reducible exact .s (.s (.s .z))); (first | exact HS.out | exact HG.out | exact HF.out); exact rfl))
      go_ret
      exact ⟨rfl, rfl⟩
theorem rc_ext {f f2 : Nat → Nat} (h : ∀ i, f i = f2 i) (o k : Bool) : rcells f o k = rcells f2 o k := rcells_ext fun i _ => h i
theorem rc_put (f : Nat → Nat) (o k : Bool) (j v : Nat) : rcells (upd (fun i => if i < j then v else f i) j v) o k = rcells (fun i => if i < j + 1 then v else f i) o k := by
  refine rc_ext (fun i => ?_) o k
  unfold upd
  by_cases h : i = j
  · rw [if_pos h, if_pos (by omega)]
  · rw [if_neg h]
    show (if i < j then v else f i) = _
    by_cases h1 : i < j
    · rw [if_pos h1, if_pos (by omega)]
    · rw [if_neg h1, if_neg (by omega)]
set_option maxRecDepth 100000 in
theorem cover_0 {W0 w : World} {l : List (Nat × TypeId × List Value)} (g : Nat) (f : Nat → Nat) (o k : Bool) (n v : Nat) (N : Int) (hN : Hid (N = (n : Int))) (hn : n ≤ 256) (HM : Hid (Own W0 w ((g, 25, rcells f o k) :: l))) :
    Calls Try.prog 19 #[.pointer (some ⟨g, 0, none⟩), .int .i64 N, .int .u8 (v : Int)] w fun e w' => e = .returned (.tuple #[]) ∧ Hid (Own W0 w' ((g, 25, rcells (fun i => if i < n then v else f i) o k) :: l)) := by
  obtain rfl := hN.out
  have HN := Lib.hid hn
  clear hN
  go_enter Try.func19, Try.ntmps19
  go_upto_region 1 with fail
  go_loopw [8] (fun iv wr => ∃ j : Nat, j ≤ n ∧ iv = .int .i64 (j : Int) ∧ Hid (Own W0 wr ((g, 25, rcells (fun i => if i < j then v else f i) o k) :: l))) (fun iv _ => n - (intOf iv).toNat)
  case atStart => exact ⟨0, by omega, rfl, by simpa using HM⟩
  case round =>
    clear HM
    obtain ⟨j, hj, rfl, HM⟩ := hrel
    by_cases hlt : j < n
    · have hlt' : (j : Int) < (n : Int) := by omega
      have hlt2 : (j : Int) < 256 := by have := HN.out; omega
      have HJ : Hid (j < 256) := Lib.hid (by have := HN.out; omega)
      have HK := Lib.hid hlt
      clear hlt hj hn
      go_wp2_with (first | ((with_reducible apply own_rput (v := v) HM); exact rfl; exact rfl; exact rfl; exact rfl; exact oneU8; exact HJ.out; (first | with_reducible exact .z | with_reducible exact .s .z | with_reducible exact .s (.s .z) | with_reducible exact .s (.s (.s .z))); (first | with_reducible exact .z | with_reducible exact .s .z | with_reducible exact .s (.s .z) | with_reducible exact .s (.s (.s .z))); exact rfl; exact rfl; clear HM; intro w' HM))
      rw [rc_put] at HM
      go_roundw
      case rel => exact ⟨j + 1, by have := HK.out; omega, by go_num, HM⟩
      case measure => have := HK.out; simp [intOf]; omega
    · obtain rfl : j = n := by omega
      go_wp2
      (try rw [Exit.noGoto_normal])
      (first
        | go_end0
        | ((try simp only [Exit.inBlock, Exit.then]); refine bodyPost_ret (results_none rfl _ _ _) rfl ?_))
      exact ⟨rfl, HM⟩
set_option maxRecDepth 100000 in
theorem cover_1 {W0 w : World} {e0 e1 : Nat × TypeId × List Value} {l : List (Nat × TypeId × List Value)} (g : Nat) (f : Nat → Nat) (o k : Bool) (n v : Nat) (N : Int) (hN : Hid (N = (n : Int))) (hn : n ≤ 256) (HM : Hid (Own W0 w (e0 :: e1 :: (g, 25, rcells f o k) :: l))) :
    Calls Try.prog 19 #[.pointer (some ⟨g, 0, none⟩), .int .i64 N, .int .u8 (v : Int)] w fun e w' => e = .returned (.tuple #[]) ∧ Hid (Own W0 w' (e0 :: e1 :: (g, 25, rcells (fun i => if i < n then v else f i) o k) :: l)) := by
  obtain rfl := hN.out
  have HN := Lib.hid hn
  clear hN
  go_enter Try.func19, Try.ntmps19
  go_upto_region 1 with fail
  go_loopw [8] (fun iv wr => ∃ j : Nat, j ≤ n ∧ iv = .int .i64 (j : Int) ∧ Hid (Own W0 wr (e0 :: e1 :: (g, 25, rcells (fun i => if i < j then v else f i) o k) :: l))) (fun iv _ => n - (intOf iv).toNat)
  case atStart => exact ⟨0, by omega, rfl, by simpa using HM⟩
  case round =>
    clear HM
    obtain ⟨j, hj, rfl, HM⟩ := hrel
    by_cases hlt : j < n
    · have hlt' : (j : Int) < (n : Int) := by omega
      have hlt2 : (j : Int) < 256 := by have := HN.out; omega
      have HJ : Hid (j < 256) := Lib.hid (by have := HN.out; omega)
      have HK := Lib.hid hlt
      clear hlt hj hn
      go_wp2_with (first | ((with_reducible apply own_rput (v := v) HM); exact rfl; exact rfl; exact rfl; exact rfl; exact oneU8; exact HJ.out; (first | with_reducible exact .z | with_reducible exact .s .z | with_reducible exact .s (.s .z) | with_reducible exact .s (.s (.s .z))); (first | with_reducible exact .z | with_reducible exact .s .z | with_reducible exact .s (.s .z) | with_reducible exact .s (.s (.s .z))); exact rfl; exact rfl; clear HM; intro w' HM))
      rw [rc_put] at HM
      go_roundw
      case rel => exact ⟨j + 1, by have := HK.out; omega, by go_num, HM⟩
      case measure => have := HK.out; simp [intOf]; omega
    · obtain rfl : j = n := by omega
      go_wp2
      (try rw [Exit.noGoto_normal])
      (first
        | go_end0
        | ((try simp only [Exit.inBlock, Exit.then]); refine bodyPost_ret (results_none rfl _ _ _) rfl ?_))
      exact ⟨rfl, HM⟩
def L2 (c : Nat) (bA bB : Bool) (s : Nat) : Array Bool :=
  #[true, true, true, decide (1 ≤ c), true, true, true, decide (2 ≤ c), bA, bB, decide (1 ≤ s), decide (2 ≤ s)]
def St2 (A : Act) (k1 k2 kA kB : Tmp) (v1 v2 pA pB : Value) (c : Nat) (bA bB : Bool) : Act :=
  cput bB (cput bA (cput (decide (2 ≤ c)) (cput (decide (1 ≤ c)) A k1 v1) k2 v2) kA pA) kB pB
def B2 (tA tB : TypeId) (zA zB cA cB : List Value) (bA bB : Bool) (s gA gB : Nat) : List (Nat × TypeId × List Value) :=
  (if bB = true then [(gB, tB, if 2 ≤ s then cB else zB)] else []) ++ (if bA = true then [(gA, tA, if 1 ≤ s then cA else zA)] else [])
def ok2 (c : Nat) (bA bB : Bool) (s i : Nat) : Prop :=
  (i = 3 ∧ c = 0) ∨ (i = 7 ∧ c = 1) ∨ (i = 8 ∧ bA = false) ∨ (i = 9 ∧ bB = false) ∨ (i = 10 ∧ s = 0 ∧ c = 2 ∧ bA = true ∧ bB = true) ∨ (i = 11 ∧ s = 1)
instance (c : Nat) (bA bB : Bool) (s i : Nat) : Decidable (ok2 c bA bB s i) := by unfold ok2; infer_instance
def check2 (ops : Array Oper) : Bool :=
  (List.range 3).all fun c => [false, true].all fun bA => [false, true].all fun bB => (List.range 3).all fun s =>
    (decide (0 < s) && !(decide (c = 2) && bA && bB)) || ((Region.ready .any ops (L2 c bA bB s)).all (fun i => decide (ok2 c bA bB s i)) && (Region.ready .any ops (L2 c bA bB s)).isEmpty == decide (s = 2))
theorem ready2_of {ops : Array Oper} (h : check2 ops = true) : ∀ c, c < 3 → ∀ bA bB : Bool, ∀ s, s < 3 → (0 < s → c = 2 ∧ bA = true ∧ bB = true) →
    (∀ i ∈ Region.ready .any ops (L2 c bA bB s), ok2 c bA bB s i) ∧ (Region.ready .any ops (L2 c bA bB s) = [] ↔ s = 2) := by
  intro c hc bA bB s hs hv
  unfold check2 at h
  have h1 := List.all_eq_true.1 (List.all_eq_true.1 (List.all_eq_true.1 (List.all_eq_true.1 h c (List.mem_range.2 hc)) bA (mem_two bA)) bB (mem_two bB)) s (List.mem_range.2 hs)
  rw [Bool.or_eq_true] at h1
  rcases h1 with h1 | h1
  · rw [Bool.and_eq_true, decide_eq_true_eq] at h1
    obtain ⟨rfl, rfl, rfl⟩ := hv h1.1
    simp at h1
  · rw [Bool.and_eq_true, List.all_eq_true, beq_iff_eq] at h1
    refine ⟨fun i hi => of_decide_eq_true (h1.1 i hi), ?_⟩
    rw [← List.isEmpty_iff, h1.2, decide_eq_true_eq]
theorem two {P : Program} {ops : Array Oper} {Q : Exit → Act → World → Prop} {W0 w : World} {L0 : List (Nat × TypeId × List Value)} {tA tB : TypeId} {zA zB cA cB : List Value} {A : Act} {k1 k2 kA kB : Tmp}
    (hk : check2 ops = true) (hne : [k1, k2, kA, kB].Pairwise (· ≠ ·)) (hsz : k1 < A.tmps.size ∧ k2 < A.tmps.size ∧ kA < A.tmps.size ∧ kB < A.tmps.size)
    (h3 : ∀ a w' K, (∀ j, j ∉ [k1, k2, kA, kB] → a.eval (.tmp j) = A.eval (.tmp j)) → Hid (Own W0 w' L0) → (∀ w'', Below w'.heap.size w' w'' → K (a.put (some k1) (.agg cA.toArray)) w'') → wpOp P ops Q 3 K a w')
    (h7 : ∀ a w' K, (∀ j, j ∉ [k1, k2, kA, kB] → a.eval (.tmp j) = A.eval (.tmp j)) → Hid (Own W0 w' L0) → (∀ w'', Below w'.heap.size w' w'' → K (a.put (some k2) (.agg cB.toArray)) w'') → wpOp P ops Q 7 K a w')
    (h8 : ∀ a w' l K, Hid (Own W0 w' l) → (∀ w'' g, Hid (Own W0 w'' ((g, tA, zA) :: l)) → K (a.put (some kA) (Ptr g)) w'') → wpOp P ops Q 8 K a w')
    (h9 : ∀ a w' l K, Hid (Own W0 w' l) → (∀ w'' g, Hid (Own W0 w'' ((g, tB, zB) :: l)) → K (a.put (some kB) (Ptr g)) w'') → wpOp P ops Q 9 K a w')
    (h10 : ∀ a w' l l' g K, a.eval (.tmp kA) = Ptr g → a.eval (.tmp k1) = .agg cA.toArray → Hid (Own W0 w' l) → Sel l g tA zA → Put l g tA zA cA l' → (∀ w'', Hid (Own W0 w'' l') → K a w'') → wpOp P ops Q 10 K a w')
    (h11 : ∀ a w' l l' g K, a.eval (.tmp kB) = Ptr g → a.eval (.tmp k2) = .agg cB.toArray → Hid (Own W0 w' l) → Sel l g tB zB → Put l g tB zB cB l' → (∀ w'', Hid (Own W0 w'' l') → K a w'') → wpOp P ops Q 11 K a w')
    (hQ : ∀ w' gA gB, Hid (Own W0 w' ((gB, tB, cB) :: (gA, tA, cA) :: L0)) → Q .normal ((((A.put (some k1) (.agg cA.toArray)).put (some k2) (.agg cB.toArray)).put (some kA) (Ptr gA)).put (some kB) (Ptr gB)) w')
    (HM : Hid (Own W0 w L0)) : wpAnyH P .any ops Q (fun w' => Own W0 w' L0) 6 (L2 0 false false 0) A w := by
  have hk := ready2_of hk
  obtain ⟨s1, s2, sA, sB⟩ := hsz
  simp only [List.pairwise_cons, List.mem_cons, List.not_mem_nil, or_false, forall_eq_or_imp, forall_eq, false_imp_iff, implies_true, and_true, List.Pairwise.nil] at hne
  obtain ⟨⟨n12, n1A, n1B⟩, ⟨n2A, n2B⟩, nAB⟩ := hne
  have same : ∀ c bA bB pA pB, ∀ j, j ∉ [k1, k2, kA, kB] → (St2 A k1 k2 kA kB (.agg cA.toArray) (.agg cB.toArray) pA pB c bA bB).eval (.tmp j) = A.eval (.tmp j) := by
    intro c bA bB pA pB j hj
    simp only [List.mem_cons, List.not_mem_nil, or_false, not_or] at hj
    obtain ⟨j1, j2, jA, jB⟩ := hj
    unfold St2
    rw [eval_cput_ne _ _ _ _ _ (Ne.symm jB), eval_cput_ne _ _ _ _ _ (Ne.symm jA), eval_cput_ne _ _ _ _ _ (Ne.symm j2), eval_cput_ne _ _ _ _ _ (Ne.symm j1)]
  refine inv_run (Inv := fun n l a w' => ∃ c bA bB s gA gB, c ≤ 2 ∧ s ≤ 2 ∧ (0 < s → c = 2 ∧ bA = true ∧ bB = true) ∧ n = (2 - c) + (!bA).toNat + (!bB).toNat + (2 - s) ∧ l = L2 c bA bB s ∧
    a = St2 A k1 k2 kA kB (.agg cA.toArray) (.agg cB.toArray) (Ptr gA) (Ptr gB) c bA bB ∧ Hid (Own W0 w' (B2 tA tB zA zB cA cB bA bB s gA gB ++ L0))) ?_ ?_ ?_ ?_ 6 _ _ _ ⟨0, false, false, 0, 0, 0, by omega, by omega, by omega, rfl, rfl, rfl, HM⟩
  · rintro n l a w' ⟨c, bA, bB, s, gA, gB, _, _, _, _, _, _, hO⟩
    exact hO.out.behind
  · rintro n l a w' ⟨c, bA, bB, s, gA, gB, hc, hs, hv, _, rfl, rfl, hO⟩ hr
    obtain rfl : s = 2 := (hk c (by omega) bA bB s (by omega) hv).2.1 hr
    obtain ⟨rfl, rfl, rfl⟩ := hv (by omega)
    exact hQ w' gA gB hO
  · rintro l a w' ⟨c, bA, bB, s, gA, gB, hc, hs, hv, hn, rfl, rfl, hO⟩
    exact (hk c (by omega) bA bB s (by omega) hv).2.2 (by omega)
  · rintro n l a w' ⟨c, bA, bB, s, gA, gB, hc, hs, hv, hn, rfl, rfl, hO⟩ i hi
    have hok := (hk c (by omega) bA bB s (by omega) hv).1 i hi
    unfold ok2 at hok
    rcases hok with ⟨rfl, rfl⟩ | ⟨rfl, rfl⟩ | ⟨rfl, rfl⟩ | ⟨rfl, rfl⟩ | ⟨rfl, rfl, rfl, rfl, rfl⟩ | ⟨rfl, rfl⟩
    · have s0 : s = 0 := by rcases Nat.eq_zero_or_pos s with h | h; exact h; have := (hv h).1; omega
      subst s0
      refine h3 _ _ _ (same _ _ _ _ _) (Lib.hid hO.out.behind) fun w'' hb => ⟨1, bA, bB, 0, gA, gB, by omega, by omega, by omega, by omega, rfl, ?_, Lib.hid (hO.out.call hb)⟩
      unfold St2
      rw [put_cput _ _ _ _ _ _ (Ne.symm n1B), put_cput _ _ _ _ _ _ (Ne.symm n1A), put_cput _ _ _ _ _ _ (Ne.symm n12)]
      rfl
    · have s0 : s = 0 := by rcases Nat.eq_zero_or_pos s with h | h; exact h; have := (hv h).1; omega
      subst s0
      refine h7 _ _ _ (same _ _ _ _ _) (Lib.hid hO.out.behind) fun w'' hb => ⟨2, bA, bB, 0, gA, gB, by omega, by omega, by omega, by omega, rfl, ?_, Lib.hid (hO.out.call hb)⟩
      unfold St2
      rw [put_cput _ _ _ _ _ _ (Ne.symm n2B), put_cput _ _ _ _ _ _ (Ne.symm n2A)]
      rfl
    · have s0 : s = 0 := by rcases Nat.eq_zero_or_pos s with h | h; exact h; have := (hv h).2.1; cases this
      subst s0
      refine h8 _ _ _ _ hO fun w'' g hO2 => ⟨c, true, bB, 0, g, gB, hc, by omega, by omega, by simp at hn ⊢; omega, rfl, ?_, Lib.hid (hO2.out.perm ?_)⟩
      · unfold St2
        rw [put_cput _ _ _ _ _ _ (Ne.symm nAB)]
        rfl
      · cases bB <;> simp only [B2, if_true, Bool.false_eq_true, if_false, List.nil_append, List.cons_append, List.append_nil]
        · exact List.Perm.refl _
        · exact List.Perm.swap _ _ _
    · have s0 : s = 0 := by rcases Nat.eq_zero_or_pos s with h | h; exact h; have := (hv h).2.2; cases this
      subst s0
      refine h9 _ _ _ _ hO fun w'' g hO2 => ⟨c, bA, true, 0, gA, g, hc, by omega, by omega, by simp at hn ⊢; omega, rfl, rfl, Lib.hid (hO2.out.perm ?_)⟩
      cases bA <;> simp only [B2, if_true, Bool.false_eq_true, if_false, List.nil_append, List.cons_append, List.append_nil] <;> exact List.Perm.refl _
    · refine h10 _ _ _ _ gA _ ?_ ?_ hO (.s .z) (.s .z) fun w'' hO2 => ⟨2, true, true, 1, gA, gB, by omega, by omega, fun _ => ⟨rfl, rfl, rfl⟩, by simp at hn ⊢; omega, rfl, rfl, hO2⟩
      · unfold St2
        rw [eval_cput_ne _ _ _ _ _ (Ne.symm nAB)]
        exact eval_put_eq _ _ _ (by rw [size_cput, size_cput]; exact sA)
      · unfold St2
        rw [eval_cput_ne _ _ _ _ _ (Ne.symm n1B), eval_cput_ne _ _ _ _ _ (Ne.symm n1A), eval_cput_ne _ _ _ _ _ (Ne.symm n12)]
        exact eval_put_eq _ _ _ s1
    · obtain ⟨rfl, rfl, rfl⟩ := hv (by omega)
      refine h11 _ _ _ _ gB _ ?_ ?_ hO .z .z fun w'' hO2 => ⟨2, true, true, 2, gA, gB, by omega, by omega, fun _ => ⟨rfl, rfl, rfl⟩, by simp at hn ⊢; omega, rfl, rfl, hO2⟩
      · unfold St2
        exact eval_put_eq _ _ _ (by rw [size_cput, size_cput, size_cput]; exact sB)
      · unfold St2
        rw [eval_cput_ne _ _ _ _ _ (Ne.symm n2B), eval_cput_ne _ _ _ _ _ (Ne.symm n2A)]
        exact eval_put_eq _ _ _ (by rw [size_cput]; exact s2)
def TriRow (w : World) (a : Option Addr) (n : Nat) (sp : Nat → Nat → Nat) : Prop :=
  0 < n → ∃ g o, a = some ⟨g, o, none⟩ ∧ g < w.heap.size ∧ ∀ i, i < n → ∀ k, k < 3 → w.cell? ⟨g, o + i * 3 + k, none⟩ = some (.int .u8 (sp i k : Int)) ∧ sp i k < 256
theorem TriRow.under {w w' : World} {a : Option Addr} {n : Nat} {sp : Nat → Nat → Nat} (h : TriRow w a n sp) (hb : Below w.heap.size w w') : TriRow w' a n sp := by
  intro hn
  obtain ⟨g, o, rfl, hg, hc⟩ := h hn
  exact ⟨g, o, rfl, Nat.lt_of_lt_of_le hg hb.size, fun i hi k hk => ⟨(hb.cell (p := ⟨g, o + i * 3 + k, none⟩) hg).trans (hc i hi k hk).1, (hc i hi k hk).2⟩⟩
theorem TriRow.nil (w : World) (a : Option Addr) (sp : Nat → Nat → Nat) : TriRow w a 0 sp := fun h => absurd h (by omega)
theorem upd_step (T : Nat → Nat) (j : Nat) : upd (fun i => if i < j then T i else 0) j (T j) = fun i => if i < j + 1 then T i else 0 := by
  funext i
  unfold upd
  by_cases h1 : i = j
  · subst h1; simp
  · by_cases h2 : i < j
    · rw [if_neg h1]; show (if i < j then T i else 0) = _; rw [if_pos h2, if_pos (by omega)]
    · rw [if_neg h1]; show (if i < j then T i else 0) = _; rw [if_neg h2, if_neg (by omega)]
section
variable {W0 w : World} {l l' : List (Nat × TypeId × List Value)} {ops : Array Oper} {rest : List Oper} {o : Oper} {a : Act} {Q : Exit → Act → World → Prop}
theorem own_b8s {ty t : TypeId} {x y : Operand} {g m i v : Nat} {xs : Nat → Nat} (HM : Hid (Own W0 w l)) (ho : o.op = .store ty x y) (hx : a.eval x = .pointer (some ⟨g, i, none⟩)) (hy : a.eval y = .int .u8 (v : Int))
    (hsel : Sel l g t (b8 m xs)) (hs : Put l g t (b8 m xs) (b8 m (upd xs i v)) l') (hty : One Try.prog ty) (hi : i < m) (hw : Region.wanted o (yielded ops a.tmps) = true) (hd : o.dst = none) (h : ∀ w', Hid (Own W0 w' l') → wpList Try.prog ops Q rest a w') : wpList Try.prog ops Q (o :: rest) a w := by
  refine own_put HM ho hx hy hsel (l' := l') ?_ hty.size rfl hw (by rw [b8_length]; exact hi) hd h
  rw [b8_set]; exact hs
end
end Go.Proofs.Ytijjigacmmhloaa
