/-
  The landed code's Line.
-/
import Derived.Test.YtcefgcoibppdaaaSpCodeB
import Derived.Test.YtcefgcoibppdaaaSpCodeC
import Derived.Test.YtcefgcoibppdaaaSpCodeD
import Derived.Test.YtcefgcoibppdaaaQuietTail
import Derived.Test.YtcefgcoibppdaaaSpRef
namespace Go.Proofs.Ytcefgcoibppdaaa
open Go.RowKit

/-- behind some sprites: the colors, and whether two have met -/
def spFK (G : Nat → Nat → Nat) (T : List Nat) (k : Nat) : Nat → Nat := fun x => spCol ((T.take k).map (G x))
def spCK (G : Nat → Nat → Nat) (T : List Nat) (k : Nat) : Bool := (List.range 256).any fun x => decide (2 ≤ spCnt ((T.take k).map (G x)))
theorem spFK_0 (G : Nat → Nat → Nat) (T : List Nat) : spFK G T 0 = fun _ => 0 := by funext x; unfold spFK; rw [List.take_zero]; rfl
theorem spCK_0 (G : Nat → Nat → Nat) (T : List Nat) : spCK G T 0 = false := by
  unfold spCK
  rw [List.any_eq_false]
  intro x _ h
  rw [List.take_zero] at h
  exact absurd (of_decide_eq_true h) (by show ¬ 2 ≤ spCnt []; decide)
theorem take_one {T : List Nat} {k i : Nat} (h : T[k]? = some i) : T.take (k + 1) = T.take k ++ [i] := by
  rw [List.take_add_one, h]; rfl
theorem spFrom_bot {Y : Nat → Nat} {h : Nat} {line : Int} : ∀ k i, ∀ x ∈ spFrom Y h line k i, line < spTop (Y x) + h
  | 0, _, x, hx => by simp [spFrom] at hx
  | k + 1, i, x, hx => by
    have hx' : x ∈ (if Y i = 208 then [] else if spIs h line (Y i) = true then i :: spFrom Y h line k (i + 1) else spFrom Y h line k (i + 1)) := hx
    split at hx'
    · simp at hx'
    · split at hx'
      · rename_i h1 h2
        rcases List.mem_cons.1 hx' with rfl | hx'
        · unfold spIs at h2; simp at h2; exact h2.2
        · exact spFrom_bot k (i + 1) x hx'
      · exact spFrom_bot k (i + 1) x hx'
theorem spL_mem {n : Nat} {xs : Nat → Nat} {r1 r5 i : Nat} {line : Int} (h : i ∈ (spL n xs r1 r5 line).take 8) : i < 64 ∧ spTop (mem n xs (spBase r5 + i)) ≤ line ∧ line < spTop (mem n xs (spBase r5 + i)) + (spH r1 : Nat) := by
  have h1 := List.mem_of_mem_take h
  exact ⟨by have := (spFrom_lt _ _ _ 64 0 i h1).2; omega, spFrom_top 64 0 i h1, spFrom_bot 64 0 i h1⟩
theorem dot_lay (n : Nat) (xs : Nat → Nat) (r0 r1 r5 r6 : Nat) (line : Int) (i y X t s : Nat) (x : Int) (hY : mem n xs (spBase r5 + i) = y) (hX : mem n xs (spBase r5 + 128 + 2 * i) = X) (hT : mem n xs (spBase r5 + 129 + 2 * i) = t) (hs : 1 + r1 % 2 = s) (hx : (X : Int) - 8 * ((r0 / 8 % 2 : Nat) : Int) = x) (D : Nat → Nat) (hD : spRowD n xs r1 r6 line y t = D) (a : Nat) : layD x D s a = spDot n xs r0 r1 r5 r6 line a i := by
  unfold spDot spDotV layD
  rw [hY, hX, hT, ← hD]
  unfold spRowD spNum
  rw [← hx, ← hs]
  split
  · rfl
  · split <;> rfl
theorem rowN_get {t : TypeId} {R : List (Nat × TypeId × List Value)} {p : Option Addr} {m c k i : Nat} {T : List Nat} (h : RowN 1 t R (.slice p m c) m (nts T)) (hi : T[k]? = some i) : ∃ g cur, R = [(g, t, cur)] ∧ p = some ⟨g, 0, none⟩ ∧ cur[k]? = some (.int .i64 (i : Int)) := by
  obtain ⟨hl, ⟨_, _, h0⟩ | ⟨g, cap, cur, hR, hv, h1, h2, h3, h4⟩⟩ := h
  · have := (List.getElem?_eq_some_iff.1 hi).1
    rw [nts_length] at hl
    omega
  · cases hv
    refine ⟨g, cur, hR, rfl, ?_⟩
    have hk : k < m := by have := (List.getElem?_eq_some_iff.1 hi).1; rw [nts_length] at hl; omega
    have e1 : (cur.take (m * 1))[k]? = cur[k]? := by rw [List.getElem?_take, if_pos (by omega)]
    rw [← e1, h4]
    exact nts_get T k i hi
theorem Own.rowN {W0 w w' : World} {l R : List (Nat × TypeId × List Value)} {t : TypeId} {v : Value} {k : Nat} {xs : List Value} (h : Own W0 w l) (hb : Below w.heap.size w w') (hR : RowN 1 t R v k xs) (hW : ∀ x ∈ R, w.heap.size ≤ x.1 ∧ Whole w' x.1 x.2.1 x.2.2) : Own W0 w' (l ++ R) := by
  obtain ⟨_, ⟨rfl, _⟩ | ⟨g, cap, cur, rfl, _⟩⟩ := hR
  · rw [List.append_nil]; exact h.call hb
  · obtain ⟨h1, h2⟩ := hW (g, t, cur) (by simp)
    exact (h.plus hb h1 h2).perm (List.perm_append_singleton _ _).symm

set_option maxRecDepth 100000 in
set_option maxHeartbeats 6400000 in
theorem line_1 (a : Option Addr) (n cap : Nat) (xs : Nat → Nat) (r0 r1 r2 r3 r4 r5 r6 r7 r8 r9 r10 : Nat) (line : Int) (b0 : r0 < 256) (b1 : r1 < 256) (b5 : r5 < 256) (b6 : r6 < 256) (l0 : 0 ≤ line) (l1 : line ≤ 191) (f : Nat → Nat) (o c : Bool) (hf : Hid (spC n xs r0 r1 r5 r6 line = f)) (ho : Hid (spO n xs r1 r5 line = o)) (hc : Hid (spK n xs r0 r1 r5 r6 line = c)) (HS : Hid (1 + r1 % 2 = 1)) (w : World) (hV : ByteRow w a n xs) :
    Calls Try.prog 15 #[.slice a n cap, regsV r0 r1 r2 r3 r4 r5 r6 r7 r8 r9 r10, .int .i64 line] w fun e w' => e = .returned (rowV f o c) ∧ Below w.heap.size w w' := by
  have HM := Lib.hid (Own.start w)
  have tg1 : Hid True := trivial
  have tg2 : Hid True := trivial
  have tg3 : Hid True := trivial
  have HV := Lib.hid hV
  have H0 := Lib.hid b0
  have H1 := Lib.hid b1
  have H5 := Lib.hid b5
  have H6 := Lib.hid b6
  obtain ⟨T, hT⟩ : ∃ T, Hid ((spL n xs r1 r5 line).take 8 = T) := ⟨_, rfl⟩
  obtain ⟨G, hG⟩ : ∃ G, Hid (spDot n xs r0 r1 r5 r6 line = G) := ⟨_, rfl⟩
  obtain ⟨m, hm⟩ : ∃ m, Hid (T.length = m) := ⟨_, rfl⟩
  have m8 : (m : Int) ≤ 8 := by have := hm.out; rw [← hT.out, List.length_take] at this; omega
  have HON : Hid (∀ w', ByteRow w' a n xs → Calls Try.prog 8 #[.slice a n cap, regsV r0 r1 r2 r3 r4 r5 r6 r7 r8 r9 r10, .int .i64 line] w' fun e w'' => ∃ v R, e = .returned (.tuple #[v, .bool o]) ∧ RowN 1 3 R v m (nts T) ∧ (∀ x ∈ R, w'.heap.size ≤ x.1 ∧ Whole w'' x.1 x.2.1 x.2.2) ∧ Below w'.heap.size w' w'') := Lib.hid fun w' hV' => by
    have h := on_own a n cap xs r0 r1 r2 r3 r4 r5 r6 r7 r8 r9 r10 line b1 b5 l0 l1 _ (Lib.hid rfl) w' hV'
    rw [hT.out, hm.out] at h
    rw [← ho.out]
    exact h
  have ef : spFK G T m = f := by rw [← hf.out, ← hm.out]; unfold spFK; rw [List.take_length, ← hT.out, ← hG.out]; rfl
  have ec : spCK G T m = c := by rw [← hc.out, ← hm.out]; unfold spCK; rw [List.take_length, ← hT.out, ← hG.out]; rfl
  have EF := Lib.hid ef
  have EC := Lib.hid ec
  clear hV b0 b1 b5 b6 ef ec hf hc ho
  go_enter Try.func15, Try.ntmps15
  go_upto_region 3 with (first | (go_at_call 8; (with_reducible refine (HON.out _ (HV.out.under (Own.fin HM))).mono ?_); rintro e w' ⟨v, R, rfl, HR, HW, hb⟩; have HM' := Lib.hid (HM.out.rowN hb HR HW); clear HM hb HW; have HM := HM'; clear HM') | ((with_reducible apply own_box HM); exact rfl; (conv => lhs; whnf); exact rfl; exact rfl; (first | (clear tg1; intro w' g1 HM') | (clear tg2; intro w' g2 HM') | (clear tg3; intro w' g3 HM') | (clear tg4; intro w' g4 HM') | intro w' g' HM'); clear HM; have HM := HM'; clear HM'; all_goals skip) | ((with_reducible apply own_alloc HM); exact rfl; (first | (with_reducible exact zeroRow)); exact rfl; (first | (clear tg1; intro w' g1 HM') | (clear tg2; intro w' g2 HM') | (clear tg3; intro w' g3 HM') | (clear tg4; intro w' g4 HM') | intro w' g' HM'); clear HM; have HM := HM'; clear HM'; all_goals skip) | ((with_reducible apply own_cell HM); exact rfl; exact rfl; (first | (with_reducible exact oneInt) | (with_reducible exact oneBool) | (with_reducible exact oneU8)); (first | with_reducible exact .z | with_reducible exact .s .z | with_reducible exact .s (.s .z) | with_reducible exact .s (.s (.s .z)) | with_reducible exact .s (.s (.s (.s .z))) | with_reducible exact .s (.s (.s (.s (.s .z))))); (focus repeat' (first | with_reducible exact .z | with_reducible apply Drop.s)); exact rfl; all_goals skip) | ((with_reducible apply own_load HM); exact rfl; exact rfl; (first | (with_reducible exact agg11)); (first | with_reducible exact .z | with_reducible exact .s .z | with_reducible exact .s (.s .z) | with_reducible exact .s (.s (.s .z)) | with_reducible exact .s (.s (.s (.s .z))) | with_reducible exact .s (.s (.s (.s (.s .z))))); (focus repeat' (first | with_reducible exact .z | with_reducible apply Drop.s)); (focus repeat' (first | with_reducible exact .z | with_reducible apply Take.s)); exact rfl; all_goals skip) | ((with_reducible apply own_store HM); exact rfl; exact rfl; (conv => lhs; whnf); exact rfl; (first | with_reducible exact .z | with_reducible exact .s .z | with_reducible exact .s (.s .z) | with_reducible exact .s (.s (.s .z)) | with_reducible exact .s (.s (.s (.s .z))) | with_reducible exact .s (.s (.s (.s (.s .z))))); (focus repeat' (first | with_reducible exact .z | with_reducible apply Over.p | with_reducible apply Over.s)); (first | with_reducible exact .z | with_reducible exact .s .z | with_reducible exact .s (.s .z) | with_reducible exact .s (.s (.s .z)) | with_reducible exact .s (.s (.s (.s .z))) | with_reducible exact .s (.s (.s (.s (.s .z))))); (first | (with_reducible exact (agg11).size) | (with_reducible exact (oneInt).size) | (with_reducible exact (oneBool).size) | (with_reducible exact (oneU8).size)); exact rfl; exact rfl; exact rfl; exact rfl; intro w' HM'; clear HM; have HM := HM'; clear HM'; all_goals skip))
  obtain ⟨p, cp, rfl⟩ := RowN.shape HR
  have HRH := Lib.hid HR
  clear HR HON
  simp only [List.cons_append, List.nil_append] at HM
  go_upto_region 5 with (first | ((with_reducible apply own_rputO HM); exact rfl; exact rfl; exact rfl; exact oneBool; (first | with_reducible exact .z | with_reducible exact .s .z | with_reducible exact .s (.s .z) | with_reducible exact .s (.s (.s .z))); (first | with_reducible exact .z | with_reducible exact .s .z | with_reducible exact .s (.s .z) | with_reducible exact .s (.s (.s .z))); exact rfl; exact rfl; clear HM; intro w' HM) | ((with_reducible apply own_box HM); exact rfl; (conv => lhs; whnf); exact rfl; exact rfl; (first | (clear tg1; intro w' g1 HM') | (clear tg2; intro w' g2 HM') | (clear tg3; intro w' g3 HM') | (clear tg4; intro w' g4 HM') | intro w' g' HM'); clear HM; have HM := HM'; clear HM'; all_goals skip) | ((with_reducible apply own_alloc HM); exact rfl; (first | (with_reducible exact zeroRow)); exact rfl; (first | (clear tg1; intro w' g1 HM') | (clear tg2; intro w' g2 HM') | (clear tg3; intro w' g3 HM') | (clear tg4; intro w' g4 HM') | intro w' g' HM'); clear HM; have HM := HM'; clear HM'; all_goals skip) | ((with_reducible apply own_cell HM); exact rfl; exact rfl; (first | (with_reducible exact oneInt) | (with_reducible exact oneBool) | (with_reducible exact oneU8)); (first | with_reducible exact .z | with_reducible exact .s .z | with_reducible exact .s (.s .z) | with_reducible exact .s (.s (.s .z)) | with_reducible exact .s (.s (.s (.s .z))) | with_reducible exact .s (.s (.s (.s (.s .z))))); (focus repeat' (first | with_reducible exact .z | with_reducible apply Drop.s)); exact rfl; all_goals skip) | ((with_reducible apply own_load HM); exact rfl; exact rfl; (first | (with_reducible exact agg11)); (first | with_reducible exact .z | with_reducible exact .s .z | with_reducible exact .s (.s .z) | with_reducible exact .s (.s (.s .z)) | with_reducible exact .s (.s (.s (.s .z))) | with_reducible exact .s (.s (.s (.s (.s .z))))); (focus repeat' (first | with_reducible exact .z | with_reducible apply Drop.s)); (focus repeat' (first | with_reducible exact .z | with_reducible apply Take.s)); exact rfl; all_goals skip) | ((with_reducible apply own_store HM); exact rfl; exact rfl; (conv => lhs; whnf); exact rfl; (first | with_reducible exact .z | with_reducible exact .s .z | with_reducible exact .s (.s .z) | with_reducible exact .s (.s (.s .z)) | with_reducible exact .s (.s (.s (.s .z))) | with_reducible exact .s (.s (.s (.s (.s .z))))); (focus repeat' (first | with_reducible exact .z | with_reducible apply Over.p | with_reducible apply Over.s)); (first | with_reducible exact .z | with_reducible exact .s .z | with_reducible exact .s (.s .z) | with_reducible exact .s (.s (.s .z)) | with_reducible exact .s (.s (.s (.s .z))) | with_reducible exact .s (.s (.s (.s (.s .z))))); (first | (with_reducible exact (agg11).size) | (with_reducible exact (oneInt).size) | (with_reducible exact (oneBool).size) | (with_reducible exact (oneU8).size)); exact rfl; exact rfl; exact rfl; exact rfl; intro w' HM'; clear HM; have HM := HM'; clear HM'; all_goals skip))
  go_loopw [23] (fun iv wr => ∃ k : Nat, k ≤ m ∧ iv = .int .i64 (k : Int) ∧ Hid (Own w wr ((g3, 39, rcells (spFK G T k) o (spCK G T k)) :: (g2, 39, rcells (fun _ => 0) false false) :: (g1, 26, [.int .u8 (r0 : Int), .int .u8 (r1 : Int), .int .u8 (r2 : Int), .int .u8 (r3 : Int), .int .u8 (r4 : Int), .int .u8 (r5 : Int), .int .u8 (r6 : Int), .int .u8 (r7 : Int), .int .u8 (r8 : Int), .int .u8 (r9 : Int), .int .u8 (r10 : Int)]) :: R))) (fun iv _ => m - (intOf iv).toNat)
  case atStart =>
    refine ⟨0, by omega, rfl, ?_⟩
    rw [spFK_0, spCK_0]
    exact HM
  case round =>
    clear HM
    obtain ⟨k, hk, rfl, HM⟩ := hrel
    by_cases hlt : k < m
    · have hlt' : (k : Int) < (m : Int) := by omega
      have HK := Lib.hid hlt
      obtain ⟨i, hi⟩ : ∃ i, T[k]? = some i := ⟨_, List.getElem?_eq_getElem (by rw [hm.out]; exact hlt)⟩
      obtain ⟨gR, cur, rfl, rfl, hcur⟩ := rowN_get HRH.out hi
      have HCU := Lib.hid hcur
      obtain ⟨i64, t0, t1⟩ := spL_mem (n := n) (xs := xs) (r1 := r1) (r5 := r5) (line := line) (i := i) (by rw [hT.out]; exact List.mem_of_getElem? hi)
      obtain ⟨y, hY⟩ : ∃ y, Hid (mem n xs (spBase r5 + i) = y) := ⟨_, rfl⟩
      obtain ⟨X, hX⟩ : ∃ y, Hid (mem n xs (spBase r5 + 128 + 2 * i) = y) := ⟨_, rfl⟩
      obtain ⟨t, ht⟩ : ∃ y, Hid (mem n xs (spBase r5 + 129 + 2 * i) = y) := ⟨_, rfl⟩
      obtain ⟨x, hx⟩ : ∃ x, Hid ((X : Int) - 8 * ((r0 / 8 % 2 : Nat) : Int) = x) := ⟨_, rfl⟩
      obtain ⟨D, hD⟩ : ∃ D, Hid (spRowD n xs r1 r6 line y t = D) := ⟨_, rfl⟩
      have X8 : X < 256 := hX.out ▸ vget_lt HV.out _
      have x0 : -8 ≤ x := by have := hx.out; omega
      have x1 : x ≤ 255 := by have := hx.out; omega
      have XB := Lib.hid (And.intro x0 x1)
      have HD16 : Hid (∀ j, D j < 16) := Lib.hid fun j => hD.out ▸ spRowD_lt _ _ _ _ _ _ _ _
      have hdd := Lib.hid (funext fun b => dot_lay n xs r0 r1 r5 r6 line i y X t 1 x hY.out hX.out ht.out HS.out hx.out D hD.out b)
      rw [hY.out] at t0 t1
      have HI64 := Lib.hid i64
      have HT0 := Lib.hid t0
      have HT1 := Lib.hid t1
      obtain ⟨dd, hdd'⟩ : ∃ dd, Hid (dd = layD x D 1) := ⟨_, rfl⟩
      have eF : spFK G T (k + 1) = layC (spFK G T k) dd := by
        unfold spFK
        rw [take_one hi]
        exact (layC_snoc (T.take k) G i dd fun b => by rw [hdd'.out, ← hG.out]; exact congrFun hdd.out b).symm
      have eC : spCK G T (k + 1) = (spCK G T k || layK (spFK G T k) dd) := by
        unfold spCK spFK
        rw [take_one hi]
        exact (layK_snoc (T.take k) G i dd fun b => by rw [hdd'.out, ← hG.out]; exact congrFun hdd.out b).symm
      have EF1 := Lib.hid eF
      have EC1 := Lib.hid eC
      clear hcur i64 t0 t1 X8 x0 x1 eF eC hdd hi hlt hk
      go_upto_region 7 with (first | ((with_reducible apply own_get HM); exact rfl; exact rfl; exact oneInt; (first | with_reducible exact .z | with_reducible exact .s .z | with_reducible exact .s (.s .z) | with_reducible exact .s (.s (.s .z))); exact HCU.out; exact rfl; all_goals skip) | ((with_reducible apply own_box HM); exact rfl; (conv => lhs; whnf); exact rfl; exact rfl; (first | (clear tg1; intro w' g1 HM') | (clear tg2; intro w' g2 HM') | (clear tg3; intro w' g3 HM') | (clear tg4; intro w' g4 HM') | intro w' g' HM'); clear HM; have HM := HM'; clear HM'; all_goals skip) | ((with_reducible apply own_alloc HM); exact rfl; (first | (with_reducible exact zeroRow)); exact rfl; (first | (clear tg1; intro w' g1 HM') | (clear tg2; intro w' g2 HM') | (clear tg3; intro w' g3 HM') | (clear tg4; intro w' g4 HM') | intro w' g' HM'); clear HM; have HM := HM'; clear HM'; all_goals skip) | ((with_reducible apply own_cell HM); exact rfl; exact rfl; (first | (with_reducible exact oneInt) | (with_reducible exact oneBool) | (with_reducible exact oneU8)); (first | with_reducible exact .z | with_reducible exact .s .z | with_reducible exact .s (.s .z) | with_reducible exact .s (.s (.s .z)) | with_reducible exact .s (.s (.s (.s .z))) | with_reducible exact .s (.s (.s (.s (.s .z))))); (focus repeat' (first | with_reducible exact .z | with_reducible apply Drop.s)); exact rfl; all_goals skip) | ((with_reducible apply own_load HM); exact rfl; exact rfl; (first | (with_reducible exact agg11)); (first | with_reducible exact .z | with_reducible exact .s .z | with_reducible exact .s (.s .z) | with_reducible exact .s (.s (.s .z)) | with_reducible exact .s (.s (.s (.s .z))) | with_reducible exact .s (.s (.s (.s (.s .z))))); (focus repeat' (first | with_reducible exact .z | with_reducible apply Drop.s)); (focus repeat' (first | with_reducible exact .z | with_reducible apply Take.s)); exact rfl; all_goals skip) | ((with_reducible apply own_store HM); exact rfl; exact rfl; (conv => lhs; whnf); exact rfl; (first | with_reducible exact .z | with_reducible exact .s .z | with_reducible exact .s (.s .z) | with_reducible exact .s (.s (.s .z)) | with_reducible exact .s (.s (.s (.s .z))) | with_reducible exact .s (.s (.s (.s (.s .z))))); (focus repeat' (first | with_reducible exact .z | with_reducible apply Over.p | with_reducible apply Over.s)); (first | with_reducible exact .z | with_reducible exact .s .z | with_reducible exact .s (.s .z) | with_reducible exact .s (.s (.s .z)) | with_reducible exact .s (.s (.s (.s .z))) | with_reducible exact .s (.s (.s (.s (.s .z))))); (first | (with_reducible exact (agg11).size) | (with_reducible exact (oneInt).size) | (with_reducible exact (oneBool).size) | (with_reducible exact (oneU8).size)); exact rfl; exact rfl; exact rfl; exact rfl; intro w' HM'; clear HM; have HM := HM'; clear HM'; all_goals skip))
      (refine own_tail 11 HM (by kernel_rfl) (by kernel_rfl) (by kernel_rfl) ?_; simp only [List.take_succ_cons, List.take_zero, List.drop_succ_cons, List.drop_zero]; (try simp only [Act.put, List.setIfInBounds_toArray, List.set_cons_zero, List.set_cons_succ]); repeat ((fail_if_success (with_reducible refine wpQuiet_nil ?_)); first | go_big_quiet_skip | (go_big_quiet_want; first | ((with_reducible apply quiet_load); exact rfl; (first | (with_reducible exact agg11)); (first | with_reducible exact .z | with_reducible exact .s .z | with_reducible exact .s (.s .z) | with_reducible exact .s (.s (.s .z)) | with_reducible exact .s (.s (.s (.s .z))) | with_reducible exact .s (.s (.s (.s (.s .z))))); (focus repeat' (first | with_reducible exact .z | with_reducible apply Drop.s)); (focus repeat' (first | with_reducible exact .z | with_reducible apply Take.s)); go_big_quiet_op; go_big_quiet_on) | ((with_reducible apply quiet_call); exact fun w => rfl; (focus (go_simp; all_goals with_reducible rfl)); (intro wq HQ; first | (with_reducible exact column_at a n cap xs r0 r1 r2 r3 r4 r5 r6 r7 r8 r9 r10 i H0.out H5.out HI64.out X hX x hx _ (HV.out.under (Own.fin HQ))) | (with_reducible exact dots_at a n cap xs r0 r1 r2 r3 r4 r5 r6 r7 r8 r9 r10 i line H1.out H5.out H6.out HI64.out y t hY ht HT0.out HT1.out D hD _ (HV.out.under (Own.fin HQ))) | (with_reducible exact scale_at r0 r1 r2 r3 r4 r5 r6 r7 r8 r9 r10 H1.out 1 HS _)); go_big_quiet_op; go_big_quiet_on) | (go_big_quiet_op; go_big_quiet_on) | (go_big_quiet_op; refine ⟨_, fun _ _ => rfl, ?_⟩; go_big_quiet_on))))
      refine wpQuiet_nil ?_
      intro w' HM'
      clear HM; have HM := HM'; clear HM'
      go_wp2_with (first | (go_at_call 23; (with_reducible refine (lay_1 g3 (spFK G T k) o (spCK G T k) x D dd XB.out.1 XB.out.2 HD16 hdd' HM).mono ?_); rintro e w' ⟨rfl, HM'⟩; clear HM; have HM := HM'; clear HM') | ((with_reducible apply own_box HM); exact rfl; (conv => lhs; whnf); exact rfl; exact rfl; (first | (clear tg1; intro w' g1 HM') | (clear tg2; intro w' g2 HM') | (clear tg3; intro w' g3 HM') | (clear tg4; intro w' g4 HM') | intro w' g' HM'); clear HM; have HM := HM'; clear HM'; all_goals skip) | ((with_reducible apply own_alloc HM); exact rfl; (first | (with_reducible exact zeroRow)); exact rfl; (first | (clear tg1; intro w' g1 HM') | (clear tg2; intro w' g2 HM') | (clear tg3; intro w' g3 HM') | (clear tg4; intro w' g4 HM') | intro w' g' HM'); clear HM; have HM := HM'; clear HM'; all_goals skip) | ((with_reducible apply own_cell HM); exact rfl; exact rfl; (first | (with_reducible exact oneInt) | (with_reducible exact oneBool) | (with_reducible exact oneU8)); (first | with_reducible exact .z | with_reducible exact .s .z | with_reducible exact .s (.s .z) | with_reducible exact .s (.s (.s .z)) | with_reducible exact .s (.s (.s (.s .z))) | with_reducible exact .s (.s (.s (.s (.s .z))))); (focus repeat' (first | with_reducible exact .z | with_reducible apply Drop.s)); exact rfl; all_goals skip) | ((with_reducible apply own_load HM); exact rfl; exact rfl; (first | (with_reducible exact agg11)); (first | with_reducible exact .z | with_reducible exact .s .z | with_reducible exact .s (.s .z) | with_reducible exact .s (.s (.s .z)) | with_reducible exact .s (.s (.s (.s .z))) | with_reducible exact .s (.s (.s (.s (.s .z))))); (focus repeat' (first | with_reducible exact .z | with_reducible apply Drop.s)); (focus repeat' (first | with_reducible exact .z | with_reducible apply Take.s)); exact rfl; all_goals skip) | ((with_reducible apply own_store HM); exact rfl; exact rfl; (conv => lhs; whnf); exact rfl; (first | with_reducible exact .z | with_reducible exact .s .z | with_reducible exact .s (.s .z) | with_reducible exact .s (.s (.s .z)) | with_reducible exact .s (.s (.s (.s .z))) | with_reducible exact .s (.s (.s (.s (.s .z))))); (focus repeat' (first | with_reducible exact .z | with_reducible apply Over.p | with_reducible apply Over.s)); (first | with_reducible exact .z | with_reducible exact .s .z | with_reducible exact .s (.s .z) | with_reducible exact .s (.s (.s .z)) | with_reducible exact .s (.s (.s (.s .z))) | with_reducible exact .s (.s (.s (.s (.s .z))))); (first | (with_reducible exact (agg11).size) | (with_reducible exact (oneInt).size) | (with_reducible exact (oneBool).size) | (with_reducible exact (oneU8).size)); exact rfl; exact rfl; exact rfl; exact rfl; intro w' HM'; clear HM; have HM := HM'; clear HM'; all_goals skip))
      rw [← EF1.out, ← EC1.out] at HM
      go_roundw
      case rel => exact ⟨k + 1, by have := HK.out; omega, by go_num, HM⟩
      case measure => have := HK.out; simp [intOf]; omega
    · obtain rfl : k = m := by omega
      rw [EF.out, EC.out] at HM
      go_wp2_with (first | ((with_reducible apply own_row HM); exact rfl; exact rfl; exact aggRow; (first | with_reducible exact .z | with_reducible exact .s .z | with_reducible exact .s (.s .z) | with_reducible exact .s (.s (.s .z))); exact rfl; exact rcells_length _ _ _; all_goals skip) | ((with_reducible apply own_lay HM); exact rfl; exact rfl; exact rfl; (first | with_reducible exact .z | with_reducible exact .s .z | with_reducible exact .s (.s .z) | with_reducible exact .s (.s (.s .z))); (first | with_reducible exact .z | with_reducible exact .s .z | with_reducible exact .s (.s .z) | with_reducible exact .s (.s (.s .z))); exact aggRow.size; exact rcells_length _ _ _; exact rcells_length _ _ _; exact rcells_one _ _ _; exact rfl; exact rfl; clear HM; intro w' HM) | ((with_reducible apply own_box HM); exact rfl; (conv => lhs; whnf); exact rfl; exact rfl; (first | (clear tg1; intro w' g1 HM') | (clear tg2; intro w' g2 HM') | (clear tg3; intro w' g3 HM') | (clear tg4; intro w' g4 HM') | intro w' g' HM'); clear HM; have HM := HM'; clear HM'; all_goals skip) | ((with_reducible apply own_alloc HM); exact rfl; (first | (with_reducible exact zeroRow)); exact rfl; (first | (clear tg1; intro w' g1 HM') | (clear tg2; intro w' g2 HM') | (clear tg3; intro w' g3 HM') | (clear tg4; intro w' g4 HM') | intro w' g' HM'); clear HM; have HM := HM'; clear HM'; all_goals skip) | ((with_reducible apply own_cell HM); exact rfl; exact rfl; (first | (with_reducible exact oneInt) | (with_reducible exact oneBool) | (with_reducible exact oneU8)); (first | with_reducible exact .z | with_reducible exact .s .z | with_reducible exact .s (.s .z) | with_reducible exact .s (.s (.s .z)) | with_reducible exact .s (.s (.s (.s .z))) | with_reducible exact .s (.s (.s (.s (.s .z))))); (focus repeat' (first | with_reducible exact .z | with_reducible apply Drop.s)); exact rfl; all_goals skip) | ((with_reducible apply own_load HM); exact rfl; exact rfl; (first | (with_reducible exact agg11)); (first | with_reducible exact .z | with_reducible exact .s .z | with_reducible exact .s (.s .z) | with_reducible exact .s (.s (.s .z)) | with_reducible exact .s (.s (.s (.s .z))) | with_reducible exact .s (.s (.s (.s (.s .z))))); (focus repeat' (first | with_reducible exact .z | with_reducible apply Drop.s)); (focus repeat' (first | with_reducible exact .z | with_reducible apply Take.s)); exact rfl; all_goals skip) | ((with_reducible apply own_store HM); exact rfl; exact rfl; (conv => lhs; whnf); exact rfl; (first | with_reducible exact .z | with_reducible exact .s .z | with_reducible exact .s (.s .z) | with_reducible exact .s (.s (.s .z)) | with_reducible exact .s (.s (.s (.s .z))) | with_reducible exact .s (.s (.s (.s (.s .z))))); (focus repeat' (first | with_reducible exact .z | with_reducible apply Over.p | with_reducible apply Over.s)); (first | with_reducible exact .z | with_reducible exact .s .z | with_reducible exact .s (.s .z) | with_reducible exact .s (.s (.s .z)) | with_reducible exact .s (.s (.s (.s .z))) | with_reducible exact .s (.s (.s (.s (.s .z))))); (first | (with_reducible exact (agg11).size) | (with_reducible exact (oneInt).size) | (with_reducible exact (oneBool).size) | (with_reducible exact (oneU8).size)); exact rfl; exact rfl; exact rfl; exact rfl; intro w' HM'; clear HM; have HM := HM'; clear HM'; all_goals skip))
      refine bodyPost_ret (v := .agg (rcells f o c).toArray) (own_results HM Try.results15 _ rfl (by (first | with_reducible exact .z | with_reducible exact .s .z | with_reducible exact .s (.s .z) | with_reducible exact .s (.s (.s .z)))) (by rw [rcells_length]; exact aggRow)) rfl ⟨rfl, Own.fin HM⟩

set_option maxRecDepth 100000 in
set_option maxHeartbeats 6400000 in
theorem line_2 (a : Option Addr) (n cap : Nat) (xs : Nat → Nat) (r0 r1 r2 r3 r4 r5 r6 r7 r8 r9 r10 : Nat) (line : Int) (b0 : r0 < 256) (b1 : r1 < 256) (b5 : r5 < 256) (b6 : r6 < 256) (l0 : 0 ≤ line) (l1 : line ≤ 191) (f : Nat → Nat) (o c : Bool) (hf : Hid (spC n xs r0 r1 r5 r6 line = f)) (ho : Hid (spO n xs r1 r5 line = o)) (hc : Hid (spK n xs r0 r1 r5 r6 line = c)) (HS : Hid (1 + r1 % 2 = 2)) (w : World) (hV : ByteRow w a n xs) :
    Calls Try.prog 15 #[.slice a n cap, regsV r0 r1 r2 r3 r4 r5 r6 r7 r8 r9 r10, .int .i64 line] w fun e w' => e = .returned (rowV f o c) ∧ Below w.heap.size w w' := by
  have HM := Lib.hid (Own.start w)
  have tg1 : Hid True := trivial
  have tg2 : Hid True := trivial
  have tg3 : Hid True := trivial
  have HV := Lib.hid hV
  have H0 := Lib.hid b0
  have H1 := Lib.hid b1
  have H5 := Lib.hid b5
  have H6 := Lib.hid b6
  obtain ⟨T, hT⟩ : ∃ T, Hid ((spL n xs r1 r5 line).take 8 = T) := ⟨_, rfl⟩
  obtain ⟨G, hG⟩ : ∃ G, Hid (spDot n xs r0 r1 r5 r6 line = G) := ⟨_, rfl⟩
  obtain ⟨m, hm⟩ : ∃ m, Hid (T.length = m) := ⟨_, rfl⟩
  have m8 : (m : Int) ≤ 8 := by have := hm.out; rw [← hT.out, List.length_take] at this; omega
  have HON : Hid (∀ w', ByteRow w' a n xs → Calls Try.prog 8 #[.slice a n cap, regsV r0 r1 r2 r3 r4 r5 r6 r7 r8 r9 r10, .int .i64 line] w' fun e w'' => ∃ v R, e = .returned (.tuple #[v, .bool o]) ∧ RowN 1 3 R v m (nts T) ∧ (∀ x ∈ R, w'.heap.size ≤ x.1 ∧ Whole w'' x.1 x.2.1 x.2.2) ∧ Below w'.heap.size w' w'') := Lib.hid fun w' hV' => by
    have h := on_own a n cap xs r0 r1 r2 r3 r4 r5 r6 r7 r8 r9 r10 line b1 b5 l0 l1 _ (Lib.hid rfl) w' hV'
    rw [hT.out, hm.out] at h
    rw [← ho.out]
    exact h
  have ef : spFK G T m = f := by rw [← hf.out, ← hm.out]; unfold spFK; rw [List.take_length, ← hT.out, ← hG.out]; rfl
  have ec : spCK G T m = c := by rw [← hc.out, ← hm.out]; unfold spCK; rw [List.take_length, ← hT.out, ← hG.out]; rfl
  have EF := Lib.hid ef
  have EC := Lib.hid ec
  clear hV b0 b1 b5 b6 ef ec hf hc ho
  go_enter Try.func15, Try.ntmps15
  go_upto_region 3 with (first | (go_at_call 8; (with_reducible refine (HON.out _ (HV.out.under (Own.fin HM))).mono ?_); rintro e w' ⟨v, R, rfl, HR, HW, hb⟩; have HM' := Lib.hid (HM.out.rowN hb HR HW); clear HM hb HW; have HM := HM'; clear HM') | ((with_reducible apply own_box HM); exact rfl; (conv => lhs; whnf); exact rfl; exact rfl; (first | (clear tg1; intro w' g1 HM') | (clear tg2; intro w' g2 HM') | (clear tg3; intro w' g3 HM') | (clear tg4; intro w' g4 HM') | intro w' g' HM'); clear HM; have HM := HM'; clear HM'; all_goals skip) | ((with_reducible apply own_alloc HM); exact rfl; (first | (with_reducible exact zeroRow)); exact rfl; (first | (clear tg1; intro w' g1 HM') | (clear tg2; intro w' g2 HM') | (clear tg3; intro w' g3 HM') | (clear tg4; intro w' g4 HM') | intro w' g' HM'); clear HM; have HM := HM'; clear HM'; all_goals skip) | ((with_reducible apply own_cell HM); exact rfl; exact rfl; (first | (with_reducible exact oneInt) | (with_reducible exact oneBool) | (with_reducible exact oneU8)); (first | with_reducible exact .z | with_reducible exact .s .z | with_reducible exact .s (.s .z) | with_reducible exact .s (.s (.s .z)) | with_reducible exact .s (.s (.s (.s .z))) | with_reducible exact .s (.s (.s (.s (.s .z))))); (focus repeat' (first | with_reducible exact .z | with_reducible apply Drop.s)); exact rfl; all_goals skip) | ((with_reducible apply own_load HM); exact rfl; exact rfl; (first | (with_reducible exact agg11)); (first | with_reducible exact .z | with_reducible exact .s .z | with_reducible exact .s (.s .z) | with_reducible exact .s (.s (.s .z)) | with_reducible exact .s (.s (.s (.s .z))) | with_reducible exact .s (.s (.s (.s (.s .z))))); (focus repeat' (first | with_reducible exact .z | with_reducible apply Drop.s)); (focus repeat' (first | with_reducible exact .z | with_reducible apply Take.s)); exact rfl; all_goals skip) | ((with_reducible apply own_store HM); exact rfl; exact rfl; (conv => lhs; whnf); exact rfl; (first | with_reducible exact .z | with_reducible exact .s .z | with_reducible exact .s (.s .z) | with_reducible exact .s (.s (.s .z)) | with_reducible exact .s (.s (.s (.s .z))) | with_reducible exact .s (.s (.s (.s (.s .z))))); (focus repeat' (first | with_reducible exact .z | with_reducible apply Over.p | with_reducible apply Over.s)); (first | with_reducible exact .z | with_reducible exact .s .z | with_reducible exact .s (.s .z) | with_reducible exact .s (.s (.s .z)) | with_reducible exact .s (.s (.s (.s .z))) | with_reducible exact .s (.s (.s (.s (.s .z))))); (first | (with_reducible exact (agg11).size) | (with_reducible exact (oneInt).size) | (with_reducible exact (oneBool).size) | (with_reducible exact (oneU8).size)); exact rfl; exact rfl; exact rfl; exact rfl; intro w' HM'; clear HM; have HM := HM'; clear HM'; all_goals skip))
  obtain ⟨p, cp, rfl⟩ := RowN.shape HR
  have HRH := Lib.hid HR
  clear HR HON
  simp only [List.cons_append, List.nil_append] at HM
  go_upto_region 5 with (first | ((with_reducible apply own_rputO HM); exact rfl; exact rfl; exact rfl; exact oneBool; (first | with_reducible exact .z | with_reducible exact .s .z | with_reducible exact .s (.s .z) | with_reducible exact .s (.s (.s .z))); (first | with_reducible exact .z | with_reducible exact .s .z | with_reducible exact .s (.s .z) | with_reducible exact .s (.s (.s .z))); exact rfl; exact rfl; clear HM; intro w' HM) | ((with_reducible apply own_box HM); exact rfl; (conv => lhs; whnf); exact rfl; exact rfl; (first | (clear tg1; intro w' g1 HM') | (clear tg2; intro w' g2 HM') | (clear tg3; intro w' g3 HM') | (clear tg4; intro w' g4 HM') | intro w' g' HM'); clear HM; have HM := HM'; clear HM'; all_goals skip) | ((with_reducible apply own_alloc HM); exact rfl; (first | (with_reducible exact zeroRow)); exact rfl; (first | (clear tg1; intro w' g1 HM') | (clear tg2; intro w' g2 HM') | (clear tg3; intro w' g3 HM') | (clear tg4; intro w' g4 HM') | intro w' g' HM'); clear HM; have HM := HM'; clear HM'; all_goals skip) | ((with_reducible apply own_cell HM); exact rfl; exact rfl; (first | (with_reducible exact oneInt) | (with_reducible exact oneBool) | (with_reducible exact oneU8)); (first | with_reducible exact .z | with_reducible exact .s .z | with_reducible exact .s (.s .z) | with_reducible exact .s (.s (.s .z)) | with_reducible exact .s (.s (.s (.s .z))) | with_reducible exact .s (.s (.s (.s (.s .z))))); (focus repeat' (first | with_reducible exact .z | with_reducible apply Drop.s)); exact rfl; all_goals skip) | ((with_reducible apply own_load HM); exact rfl; exact rfl; (first | (with_reducible exact agg11)); (first | with_reducible exact .z | with_reducible exact .s .z | with_reducible exact .s (.s .z) | with_reducible exact .s (.s (.s .z)) | with_reducible exact .s (.s (.s (.s .z))) | with_reducible exact .s (.s (.s (.s (.s .z))))); (focus repeat' (first | with_reducible exact .z | with_reducible apply Drop.s)); (focus repeat' (first | with_reducible exact .z | with_reducible apply Take.s)); exact rfl; all_goals skip) | ((with_reducible apply own_store HM); exact rfl; exact rfl; (conv => lhs; whnf); exact rfl; (first | with_reducible exact .z | with_reducible exact .s .z | with_reducible exact .s (.s .z) | with_reducible exact .s (.s (.s .z)) | with_reducible exact .s (.s (.s (.s .z))) | with_reducible exact .s (.s (.s (.s (.s .z))))); (focus repeat' (first | with_reducible exact .z | with_reducible apply Over.p | with_reducible apply Over.s)); (first | with_reducible exact .z | with_reducible exact .s .z | with_reducible exact .s (.s .z) | with_reducible exact .s (.s (.s .z)) | with_reducible exact .s (.s (.s (.s .z))) | with_reducible exact .s (.s (.s (.s (.s .z))))); (first | (with_reducible exact (agg11).size) | (with_reducible exact (oneInt).size) | (with_reducible exact (oneBool).size) | (with_reducible exact (oneU8).size)); exact rfl; exact rfl; exact rfl; exact rfl; intro w' HM'; clear HM; have HM := HM'; clear HM'; all_goals skip))
  go_loopw [23] (fun iv wr => ∃ k : Nat, k ≤ m ∧ iv = .int .i64 (k : Int) ∧ Hid (Own w wr ((g3, 39, rcells (spFK G T k) o (spCK G T k)) :: (g2, 39, rcells (fun _ => 0) false false) :: (g1, 26, [.int .u8 (r0 : Int), .int .u8 (r1 : Int), .int .u8 (r2 : Int), .int .u8 (r3 : Int), .int .u8 (r4 : Int), .int .u8 (r5 : Int), .int .u8 (r6 : Int), .int .u8 (r7 : Int), .int .u8 (r8 : Int), .int .u8 (r9 : Int), .int .u8 (r10 : Int)]) :: R))) (fun iv _ => m - (intOf iv).toNat)
  case atStart =>
    refine ⟨0, by omega, rfl, ?_⟩
    rw [spFK_0, spCK_0]
    exact HM
  case round =>
    clear HM
    obtain ⟨k, hk, rfl, HM⟩ := hrel
    by_cases hlt : k < m
    · have hlt' : (k : Int) < (m : Int) := by omega
      have HK := Lib.hid hlt
      obtain ⟨i, hi⟩ : ∃ i, T[k]? = some i := ⟨_, List.getElem?_eq_getElem (by rw [hm.out]; exact hlt)⟩
      obtain ⟨gR, cur, rfl, rfl, hcur⟩ := rowN_get HRH.out hi
      have HCU := Lib.hid hcur
      obtain ⟨i64, t0, t1⟩ := spL_mem (n := n) (xs := xs) (r1 := r1) (r5 := r5) (line := line) (i := i) (by rw [hT.out]; exact List.mem_of_getElem? hi)
      obtain ⟨y, hY⟩ : ∃ y, Hid (mem n xs (spBase r5 + i) = y) := ⟨_, rfl⟩
      obtain ⟨X, hX⟩ : ∃ y, Hid (mem n xs (spBase r5 + 128 + 2 * i) = y) := ⟨_, rfl⟩
      obtain ⟨t, ht⟩ : ∃ y, Hid (mem n xs (spBase r5 + 129 + 2 * i) = y) := ⟨_, rfl⟩
      obtain ⟨x, hx⟩ : ∃ x, Hid ((X : Int) - 8 * ((r0 / 8 % 2 : Nat) : Int) = x) := ⟨_, rfl⟩
      obtain ⟨D, hD⟩ : ∃ D, Hid (spRowD n xs r1 r6 line y t = D) := ⟨_, rfl⟩
      have X8 : X < 256 := hX.out ▸ vget_lt HV.out _
      have x0 : -8 ≤ x := by have := hx.out; omega
      have x1 : x ≤ 255 := by have := hx.out; omega
      have XB := Lib.hid (And.intro x0 x1)
      have HD16 : Hid (∀ j, D j < 16) := Lib.hid fun j => hD.out ▸ spRowD_lt _ _ _ _ _ _ _ _
      have hdd := Lib.hid (funext fun b => dot_lay n xs r0 r1 r5 r6 line i y X t 2 x hY.out hX.out ht.out HS.out hx.out D hD.out b)
      rw [hY.out] at t0 t1
      have HI64 := Lib.hid i64
      have HT0 := Lib.hid t0
      have HT1 := Lib.hid t1
      obtain ⟨dd, hdd'⟩ : ∃ dd, Hid (dd = layD x D 2) := ⟨_, rfl⟩
      have eF : spFK G T (k + 1) = layC (spFK G T k) dd := by
        unfold spFK
        rw [take_one hi]
        exact (layC_snoc (T.take k) G i dd fun b => by rw [hdd'.out, ← hG.out]; exact congrFun hdd.out b).symm
      have eC : spCK G T (k + 1) = (spCK G T k || layK (spFK G T k) dd) := by
        unfold spCK spFK
        rw [take_one hi]
        exact (layK_snoc (T.take k) G i dd fun b => by rw [hdd'.out, ← hG.out]; exact congrFun hdd.out b).symm
      have EF1 := Lib.hid eF
      have EC1 := Lib.hid eC
      clear hcur i64 t0 t1 X8 x0 x1 eF eC hdd hi hlt hk
      go_upto_region 7 with (first | ((with_reducible apply own_get HM); exact rfl; exact rfl; exact oneInt; (first | with_reducible exact .z | with_reducible exact .s .z | with_reducible exact .s (.s .z) | with_reducible exact .s (.s (.s .z))); exact HCU.out; exact rfl; all_goals skip) | ((with_reducible apply own_box HM); exact rfl; (conv => lhs; whnf); exact rfl; exact rfl; (first | (clear tg1; intro w' g1 HM') | (clear tg2; intro w' g2 HM') | (clear tg3; intro w' g3 HM') | (clear tg4; intro w' g4 HM') | intro w' g' HM'); clear HM; have HM := HM'; clear HM'; all_goals skip) | ((with_reducible apply own_alloc HM); exact rfl; (first | (with_reducible exact zeroRow)); exact rfl; (first | (clear tg1; intro w' g1 HM') | (clear tg2; intro w' g2 HM') | (clear tg3; intro w' g3 HM') | (clear tg4; intro w' g4 HM') | intro w' g' HM'); clear HM; have HM := HM'; clear HM'; all_goals skip) | ((with_reducible apply own_cell HM); exact rfl; exact rfl; (first | (with_reducible exact oneInt) | (with_reducible exact oneBool) | (with_reducible exact oneU8)); (first | with_reducible exact .z | with_reducible exact .s .z | with_reducible exact .s (.s .z) | with_reducible exact .s (.s (.s .z)) | with_reducible exact .s (.s (.s (.s .z))) | with_reducible exact .s (.s (.s (.s (.s .z))))); (focus repeat' (first | with_reducible exact .z | with_reducible apply Drop.s)); exact rfl; all_goals skip) | ((with_reducible apply own_load HM); exact rfl; exact rfl; (first | (with_reducible exact agg11)); (first | with_reducible exact .z | with_reducible exact .s .z | with_reducible exact .s (.s .z) | with_reducible exact .s (.s (.s .z)) | with_reducible exact .s (.s (.s (.s .z))) | with_reducible exact .s (.s (.s (.s (.s .z))))); (focus repeat' (first | with_reducible exact .z | with_reducible apply Drop.s)); (focus repeat' (first | with_reducible exact .z | with_reducible apply Take.s)); exact rfl; all_goals skip) | ((with_reducible apply own_store HM); exact rfl; exact rfl; (conv => lhs; whnf); exact rfl; (first | with_reducible exact .z | with_reducible exact .s .z | with_reducible exact .s (.s .z) | with_reducible exact .s (.s (.s .z)) | with_reducible exact .s (.s (.s (.s .z))) | with_reducible exact .s (.s (.s (.s (.s .z))))); (focus repeat' (first | with_reducible exact .z | with_reducible apply Over.p | with_reducible apply Over.s)); (first | with_reducible exact .z | with_reducible exact .s .z | with_reducible exact .s (.s .z) | with_reducible exact .s (.s (.s .z)) | with_reducible exact .s (.s (.s (.s .z))) | with_reducible exact .s (.s (.s (.s (.s .z))))); (first | (with_reducible exact (agg11).size) | (with_reducible exact (oneInt).size) | (with_reducible exact (oneBool).size) | (with_reducible exact (oneU8).size)); exact rfl; exact rfl; exact rfl; exact rfl; intro w' HM'; clear HM; have HM := HM'; clear HM'; all_goals skip))
      (refine own_tail 11 HM (by kernel_rfl) (by kernel_rfl) (by kernel_rfl) ?_; simp only [List.take_succ_cons, List.take_zero, List.drop_succ_cons, List.drop_zero]; (try simp only [Act.put, List.setIfInBounds_toArray, List.set_cons_zero, List.set_cons_succ]); repeat ((fail_if_success (with_reducible refine wpQuiet_nil ?_)); first | go_big_quiet_skip | (go_big_quiet_want; first | ((with_reducible apply quiet_load); exact rfl; (first | (with_reducible exact agg11)); (first | with_reducible exact .z | with_reducible exact .s .z | with_reducible exact .s (.s .z) | with_reducible exact .s (.s (.s .z)) | with_reducible exact .s (.s (.s (.s .z))) | with_reducible exact .s (.s (.s (.s (.s .z))))); (focus repeat' (first | with_reducible exact .z | with_reducible apply Drop.s)); (focus repeat' (first | with_reducible exact .z | with_reducible apply Take.s)); go_big_quiet_op; go_big_quiet_on) | ((with_reducible apply quiet_call); exact fun w => rfl; (focus (go_simp; all_goals with_reducible rfl)); (intro wq HQ; first | (with_reducible exact column_at a n cap xs r0 r1 r2 r3 r4 r5 r6 r7 r8 r9 r10 i H0.out H5.out HI64.out X hX x hx _ (HV.out.under (Own.fin HQ))) | (with_reducible exact dots_at a n cap xs r0 r1 r2 r3 r4 r5 r6 r7 r8 r9 r10 i line H1.out H5.out H6.out HI64.out y t hY ht HT0.out HT1.out D hD _ (HV.out.under (Own.fin HQ))) | (with_reducible exact scale_at r0 r1 r2 r3 r4 r5 r6 r7 r8 r9 r10 H1.out 2 HS _)); go_big_quiet_op; go_big_quiet_on) | (go_big_quiet_op; go_big_quiet_on) | (go_big_quiet_op; refine ⟨_, fun _ _ => rfl, ?_⟩; go_big_quiet_on))))
      refine wpQuiet_nil ?_
      intro w' HM'
      clear HM; have HM := HM'; clear HM'
      go_wp2_with (first | (go_at_call 23; (with_reducible refine (lay_2 g3 (spFK G T k) o (spCK G T k) x D dd XB.out.1 XB.out.2 HD16 hdd' HM).mono ?_); rintro e w' ⟨rfl, HM'⟩; clear HM; have HM := HM'; clear HM') | ((with_reducible apply own_box HM); exact rfl; (conv => lhs; whnf); exact rfl; exact rfl; (first | (clear tg1; intro w' g1 HM') | (clear tg2; intro w' g2 HM') | (clear tg3; intro w' g3 HM') | (clear tg4; intro w' g4 HM') | intro w' g' HM'); clear HM; have HM := HM'; clear HM'; all_goals skip) | ((with_reducible apply own_alloc HM); exact rfl; (first | (with_reducible exact zeroRow)); exact rfl; (first | (clear tg1; intro w' g1 HM') | (clear tg2; intro w' g2 HM') | (clear tg3; intro w' g3 HM') | (clear tg4; intro w' g4 HM') | intro w' g' HM'); clear HM; have HM := HM'; clear HM'; all_goals skip) | ((with_reducible apply own_cell HM); exact rfl; exact rfl; (first | (with_reducible exact oneInt) | (with_reducible exact oneBool) | (with_reducible exact oneU8)); (first | with_reducible exact .z | with_reducible exact .s .z | with_reducible exact .s (.s .z) | with_reducible exact .s (.s (.s .z)) | with_reducible exact .s (.s (.s (.s .z))) | with_reducible exact .s (.s (.s (.s (.s .z))))); (focus repeat' (first | with_reducible exact .z | with_reducible apply Drop.s)); exact rfl; all_goals skip) | ((with_reducible apply own_load HM); exact rfl; exact rfl; (first | (with_reducible exact agg11)); (first | with_reducible exact .z | with_reducible exact .s .z | with_reducible exact .s (.s .z) | with_reducible exact .s (.s (.s .z)) | with_reducible exact .s (.s (.s (.s .z))) | with_reducible exact .s (.s (.s (.s (.s .z))))); (focus repeat' (first | with_reducible exact .z | with_reducible apply Drop.s)); (focus repeat' (first | with_reducible exact .z | with_reducible apply Take.s)); exact rfl; all_goals skip) | ((with_reducible apply own_store HM); exact rfl; exact rfl; (conv => lhs; whnf); exact rfl; (first | with_reducible exact .z | with_reducible exact .s .z | with_reducible exact .s (.s .z) | with_reducible exact .s (.s (.s .z)) | with_reducible exact .s (.s (.s (.s .z))) | with_reducible exact .s (.s (.s (.s (.s .z))))); (focus repeat' (first | with_reducible exact .z | with_reducible apply Over.p | with_reducible apply Over.s)); (first | with_reducible exact .z | with_reducible exact .s .z | with_reducible exact .s (.s .z) | with_reducible exact .s (.s (.s .z)) | with_reducible exact .s (.s (.s (.s .z))) | with_reducible exact .s (.s (.s (.s (.s .z))))); (first | (with_reducible exact (agg11).size) | (with_reducible exact (oneInt).size) | (with_reducible exact (oneBool).size) | (with_reducible exact (oneU8).size)); exact rfl; exact rfl; exact rfl; exact rfl; intro w' HM'; clear HM; have HM := HM'; clear HM'; all_goals skip))
      rw [← EF1.out, ← EC1.out] at HM
      go_roundw
      case rel => exact ⟨k + 1, by have := HK.out; omega, by go_num, HM⟩
      case measure => have := HK.out; simp [intOf]; omega
    · obtain rfl : k = m := by omega
      rw [EF.out, EC.out] at HM
      go_wp2_with (first | ((with_reducible apply own_row HM); exact rfl; exact rfl; exact aggRow; (first | with_reducible exact .z | with_reducible exact .s .z | with_reducible exact .s (.s .z) | with_reducible exact .s (.s (.s .z))); exact rfl; exact rcells_length _ _ _; all_goals skip) | ((with_reducible apply own_lay HM); exact rfl; exact rfl; exact rfl; (first | with_reducible exact .z | with_reducible exact .s .z | with_reducible exact .s (.s .z) | with_reducible exact .s (.s (.s .z))); (first | with_reducible exact .z | with_reducible exact .s .z | with_reducible exact .s (.s .z) | with_reducible exact .s (.s (.s .z))); exact aggRow.size; exact rcells_length _ _ _; exact rcells_length _ _ _; exact rcells_one _ _ _; exact rfl; exact rfl; clear HM; intro w' HM) | ((with_reducible apply own_box HM); exact rfl; (conv => lhs; whnf); exact rfl; exact rfl; (first | (clear tg1; intro w' g1 HM') | (clear tg2; intro w' g2 HM') | (clear tg3; intro w' g3 HM') | (clear tg4; intro w' g4 HM') | intro w' g' HM'); clear HM; have HM := HM'; clear HM'; all_goals skip) | ((with_reducible apply own_alloc HM); exact rfl; (first | (with_reducible exact zeroRow)); exact rfl; (first | (clear tg1; intro w' g1 HM') | (clear tg2; intro w' g2 HM') | (clear tg3; intro w' g3 HM') | (clear tg4; intro w' g4 HM') | intro w' g' HM'); clear HM; have HM := HM'; clear HM'; all_goals skip) | ((with_reducible apply own_cell HM); exact rfl; exact rfl; (first | (with_reducible exact oneInt) | (with_reducible exact oneBool) | (with_reducible exact oneU8)); (first | with_reducible exact .z | with_reducible exact .s .z | with_reducible exact .s (.s .z) | with_reducible exact .s (.s (.s .z)) | with_reducible exact .s (.s (.s (.s .z))) | with_reducible exact .s (.s (.s (.s (.s .z))))); (focus repeat' (first | with_reducible exact .z | with_reducible apply Drop.s)); exact rfl; all_goals skip) | ((with_reducible apply own_load HM); exact rfl; exact rfl; (first | (with_reducible exact agg11)); (first | with_reducible exact .z | with_reducible exact .s .z | with_reducible exact .s (.s .z) | with_reducible exact .s (.s (.s .z)) | with_reducible exact .s (.s (.s (.s .z))) | with_reducible exact .s (.s (.s (.s (.s .z))))); (focus repeat' (first | with_reducible exact .z | with_reducible apply Drop.s)); (focus repeat' (first | with_reducible exact .z | with_reducible apply Take.s)); exact rfl; all_goals skip) | ((with_reducible apply own_store HM); exact rfl; exact rfl; (conv => lhs; whnf); exact rfl; (first | with_reducible exact .z | with_reducible exact .s .z | with_reducible exact .s (.s .z) | with_reducible exact .s (.s (.s .z)) | with_reducible exact .s (.s (.s (.s .z))) | with_reducible exact .s (.s (.s (.s (.s .z))))); (focus repeat' (first | with_reducible exact .z | with_reducible apply Over.p | with_reducible apply Over.s)); (first | with_reducible exact .z | with_reducible exact .s .z | with_reducible exact .s (.s .z) | with_reducible exact .s (.s (.s .z)) | with_reducible exact .s (.s (.s (.s .z))) | with_reducible exact .s (.s (.s (.s (.s .z))))); (first | (with_reducible exact (agg11).size) | (with_reducible exact (oneInt).size) | (with_reducible exact (oneBool).size) | (with_reducible exact (oneU8).size)); exact rfl; exact rfl; exact rfl; exact rfl; intro w' HM'; clear HM; have HM := HM'; clear HM'; all_goals skip))
      refine bodyPost_ret (v := .agg (rcells f o c).toArray) (own_results HM Try.results15 _ rfl (by (first | with_reducible exact .z | with_reducible exact .s .z | with_reducible exact .s (.s .z) | with_reducible exact .s (.s (.s .z)))) (by rw [rcells_length]; exact aggRow)) rfl ⟨rfl, Own.fin HM⟩
theorem line_in (a : Option Addr) (n cap : Nat) (xs : Nat → Nat) (r0 r1 r2 r3 r4 r5 r6 r7 r8 r9 r10 : Nat) (line : Int) (b0 : r0 < 256) (b1 : r1 < 256) (b5 : r5 < 256) (b6 : r6 < 256) (l0 : 0 ≤ line) (l1 : line ≤ 191) (f : Nat → Nat) (o c : Bool) (hf : Hid (spC n xs r0 r1 r5 r6 line = f)) (ho : Hid (spO n xs r1 r5 line = o)) (hc : Hid (spK n xs r0 r1 r5 r6 line = c)) (w : World) (hV : ByteRow w a n xs) :
    Calls Try.prog 15 #[.slice a n cap, regsV r0 r1 r2 r3 r4 r5 r6 r7 r8 r9 r10, .int .i64 line] w fun e w' => e = .returned (rowV f o c) ∧ Below w.heap.size w w' :=
  (show r1 % 2 = 0 ∨ r1 % 2 = 1 by omega).elim
    (fun h => line_1 a n cap xs r0 r1 r2 r3 r4 r5 r6 r7 r8 r9 r10 line b0 b1 b5 b6 l0 l1 f o c hf ho hc (by show _ = _; rw [h]) w hV)
    fun h => line_2 a n cap xs r0 r1 r2 r3 r4 r5 r6 r7 r8 r9 r10 line b0 b1 b5 b6 l0 l1 f o c hf ho hc (by show _ = _; rw [h]) w hV

end Go.Proofs.Ytcefgcoibppdaaa
