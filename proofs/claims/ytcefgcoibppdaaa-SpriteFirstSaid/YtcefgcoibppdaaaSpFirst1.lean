/-
  What SpriteFirst wants.
-/
import Derived.Test.YtcefgcoibppdaaaSpEnds0
import Derived.Test.YtcefgcoibppdaaaSpMoves0
import Derived.Test.YtcefgcoibppdaaaSpTri
import Derived.Test.YtcefgcoibppdaaaRowM
namespace Go.Proofs.Ytcefgcoibppdaaa
open Go.RowKit

/-- one more ahead; one more behind -/
def spCons (e : Nat → Nat) (sp : Nat → Nat → Nat) : Nat → Nat → Nat := fun i k => if i = 0 then e k else sp (i - 1) k
def spSnoc (sp : Nat → Nat → Nat) (n : Nat) (e : Nat → Nat) : Nat → Nat → Nat := fun i k => if i < n then sp i k else e k
theorem tris_cons (e : Nat → Nat) (sp : Nat → Nat → Nat) : ∀ n, [Value.int .u8 (e 0 : Int), .int .u8 (e 1 : Int), .int .u8 (e 2 : Int)] ++ tris sp n = tris (spCons e sp) (n + 1)
  | 0 => rfl
  | n + 1 => by
    show _ ++ (tris sp n ++ _) = tris (spCons e sp) (n + 1) ++ _
    rw [← List.append_assoc, tris_cons e sp n]
    rfl
theorem tris_congr {sp sp' : Nat → Nat → Nat} : ∀ n, (∀ i, i < n → ∀ k, k < 3 → sp i k = sp' i k) → tris sp n = tris sp' n
  | 0, _ => rfl
  | n + 1, h => by
    show tris sp n ++ _ = tris sp' n ++ _
    rw [tris_congr n (fun i hi => h i (by omega)), h n (by omega) 0 (by omega), h n (by omega) 1 (by omega), h n (by omega) 2 (by omega)]
theorem tris_snoc (sp : Nat → Nat → Nat) (n : Nat) (e : Nat → Nat) : tris sp n ++ [Value.int .u8 (e 0 : Int), .int .u8 (e 1 : Int), .int .u8 (e 2 : Int)] = tris (spSnoc sp n e) (n + 1) := by
  show _ = tris (spSnoc sp n e) n ++ [Value.int .u8 ((spSnoc sp n e n 0 : Nat) : Int), .int .u8 ((spSnoc sp n e n 1 : Nat) : Int), .int .u8 ((spSnoc sp n e n 2 : Nat) : Int)]
  have h (k : Nat) : spSnoc sp n e n k = e k := by unfold spSnoc; rw [if_neg (by omega)]
  rw [h, h, h, tris_congr n (sp := sp) (sp' := spSnoc sp n e) (fun i hi k _ => by unfold spSnoc; rw [if_pos hi])]
theorem spCol_cons {d : Nat} {ds : List Nat} (h : ¬ d = 0) : spCol (d :: ds) = 16 + d := by
  show (if d = 0 then spCol ds else 16 + d) = _
  rw [if_neg h]
theorem spCol_append : ∀ (l m : List Nat), ¬ spCol l = 0 → spCol (l ++ m) = spCol l
  | [], _, h => absurd rfl h
  | d :: ds, m, h => by
    show (if d = 0 then spCol (ds ++ m) else 16 + d) = (if d = 0 then spCol ds else 16 + d)
    by_cases e : d = 0
    · have h' : ¬ spCol ds = 0 := by
        have h2 : ¬ (if d = 0 then spCol ds else 16 + d) = 0 := h
        rw [if_pos e] at h2; exact h2
      rw [if_pos e, if_pos e, spCol_append ds m h']
    · rw [if_neg e, if_neg e]
theorem spFrom_len {Y : Nat → Nat} {h : Nat} {line : Int} (c : Nat) (hc : Y c = 208) : ∀ k i, i ≤ c → (spFrom Y h line k i).length ≤ c - i
  | 0, i, _ => by simp [spFrom]
  | k + 1, i, hi => by
    show (if Y i = 208 then [] else if spIs h line (Y i) = true then i :: spFrom Y h line k (i + 1) else spFrom Y h line k (i + 1)).length ≤ c - i
    by_cases he : i = c
    · subst he; rw [if_pos hc]; simp
    · have := spFrom_len (h := h) (line := line) c hc k (i + 1) (by omega)
      split
      · simp
      · split
        · simp; omega
        · omega
/-- with what stands behind the end the list goes on as it was -/
theorem spFrom_prefix {Y Y' : Nat → Nat} {h : Nat} {line : Int} (n : Nat) (hn : Y n = 208) : ∀ k i, i ≤ n → (∀ m, i ≤ m → m < n → Y m = Y' m) → ∃ r, spFrom Y' h line k i = spFrom Y h line k i ++ r
  | 0, i, _, _ => ⟨[], rfl⟩
  | k + 1, i, hi, hY => by
    show ∃ r, (if Y' i = 208 then [] else if spIs h line (Y' i) = true then i :: spFrom Y' h line k (i + 1) else spFrom Y' h line k (i + 1)) = (if Y i = 208 then [] else if spIs h line (Y i) = true then i :: spFrom Y h line k (i + 1) else spFrom Y h line k (i + 1)) ++ r
    by_cases he : i = n
    · subst he; rw [if_pos hn]; exact ⟨_, rfl⟩
    · obtain ⟨r, hr⟩ := spFrom_prefix (h := h) (line := line) n hn k (i + 1) (by omega) (fun m hm hm' => hY m (by omega) hm')
      rw [← hY i (Nat.le_refl _) (by omega), hr]
      split
      · exact ⟨[], rfl⟩
      · split
        · exact ⟨r, rfl⟩
        · exact ⟨r, rfl⟩
section
variable (T : Nat → Nat) (r0 r1 : Nat) (line : Int)
theorem spDot_mem' (sp : Nat → Nat → Nat) (ns : Nat) (hn : ns < 64) (h8 : ∀ i, i < ns → sp i 2 < 256) (x i : Nat) (hi : i < ns) : spDot 16384 (bMem T 16128 sp ns) r0 r1 126 0 line x i = spDotV (tT T) r0 r1 0 line (sp i 0) (sp i 1) (sp i 2) x := by
  show spDotV (tAt 16384 (bMem T 16128 sp ns)) r0 r1 0 line (mem 16384 (bMem T 16128 sp ns) (16128 + i)) (mem 16384 (bMem T 16128 sp ns) (16128 + 128 + 2 * i)) (mem 16384 (bMem T 16128 sp ns) (16128 + 129 + 2 * i)) x = _
  rw [mem_y (by omega) hi, mem_x (by omega) hi, mem_t (by omega) hi]
  exact spDotV_tile (h8 i hi) fun e r i he => tAt_mem (by omega) e r i (by omega)
theorem spL_len (sp : Nat → Nat → Nat) (ns : Nat) (hn : ns < 64) : (spL 16384 (bMem T 16128 sp ns) r1 126 line).length ≤ ns := by
  have := spFrom_len (Y := spY 16384 (bMem T 16128 sp ns) 126) (h := spH r1) (line := line) ns (by exact mem_end hn) 64 0 (Nat.zero_le _)
  exact this
theorem over_few (sp : Nat → Nat → Nat) (ns : Nat) (hn : ns < 8) : spO 16384 (bMem T 16128 sp ns) r1 126 line = false := by
  unfold spO
  have := spL_len T r1 line sp ns (by omega)
  simp; omega
/-- the list of one alone -/
theorem spL_one (sp : Nat → Nat → Nat) (ns : Nat) (h0 : 0 < ns) (hn : ns < 64) : spL 16384 (bMem T 16128 sp ns) r1 126 line = (if sp 0 0 = 208 then [] else if spIs (spH r1) line (sp 0 0) = true then 0 :: spFrom (spY 16384 (bMem T 16128 sp ns) 126) (spH r1) line 63 1 else spFrom (spY 16384 (bMem T 16128 sp ns) 126) (spH r1) line 63 1) := by
  show (if spY 16384 (bMem T 16128 sp ns) 126 0 = 208 then [] else if spIs (spH r1) line (spY 16384 (bMem T 16128 sp ns) 126 0) = true then 0 :: spFrom (spY 16384 (bMem T 16128 sp ns) 126) (spH r1) line 63 1 else spFrom (spY 16384 (bMem T 16128 sp ns) 126) (spH r1) line 63 1) = _
  have e : spY 16384 (bMem T 16128 sp ns) 126 0 = sp 0 0 := by
    show mem 16384 (bMem T 16128 sp ns) (16128 + 0) = _
    exact mem_y (by omega) h0
  rw [e]
/-- who is put ahead covers all others -/
theorem first_ahead (e : Nat → Nat) (sp : Nat → Nat → Nat) (n : Nat) (hn : n < 60) (e2 : e 2 < 256) (h8 : ∀ i, i < n → sp i 2 < 256) (one : Nat → Nat → Nat) (ho : one 0 = e) (x : Nat)
    (hx : ¬ spC 16384 (bMem T 16128 one 1) r0 r1 126 0 line x = 0) : spC 16384 (bMem T 16128 (spCons e sp) (n + 1)) r0 r1 126 0 line x = spC 16384 (bMem T 16128 one 1) r0 r1 126 0 line x := by
  have L1 := spL_one T r1 line one 1 (by omega) (by omega)
  have L2 := spL_one T r1 line (spCons e sp) (n + 1) (by omega) (by omega)
  have e0 : spCons e sp 0 0 = e 0 := rfl
  rw [ho] at L1
  rw [e0] at L2
  unfold spC spDots at hx ⊢
  by_cases c1 : e 0 = 208
  · rw [L1, if_pos c1] at hx
    exact absurd rfl hx
  · rw [if_neg c1] at L1 L2
    have hend : spFrom (spY 16384 (bMem T 16128 one 1) 126) (spH r1) line 63 1 = [] := by
      show (if spY 16384 (bMem T 16128 one 1) 126 1 = 208 then [] else _) = []
      rw [if_pos]
      exact mem_end (T := T) (sp := one) (ns := 1) (by omega)
    by_cases c2 : spIs (spH r1) line (e 0) = true
    · rw [if_pos c2] at L1 L2
      rw [L1, hend] at hx ⊢
      rw [L2]
      have o8 : ∀ i, i < 1 → one i 2 < 256 := by
        intro i hi
        have hi0 : i = 0 := by omega
        subst hi0
        rw [ho]; exact e2
      have d1 := spDot_mem' T r0 r1 line one 1 (by omega) o8 x 0 (by omega)
      have d2 := spDot_mem' T r0 r1 line (spCons e sp) (n + 1) (by omega) (fun i hi => by
        unfold spCons
        split
        · exact e2
        · exact h8 _ (by omega)) x 0 (by omega)
      rw [ho] at d1
      have ed : spDotV (tT T) r0 r1 0 line (spCons e sp 0 0) (spCons e sp 0 1) (spCons e sp 0 2) x = spDotV (tT T) r0 r1 0 line (e 0) (e 1) (e 2) x := rfl
      rw [ed] at d2
      simp only [List.take_succ_cons, List.map_cons, List.take_nil, List.map_nil, d1, d2] at hx ⊢
      have hd : ¬ spDotV (tT T) r0 r1 0 line (e 0) (e 1) (e 2) x = 0 := fun h0 => hx (by rw [h0]; rfl)
      rw [spCol_cons hd, spCol_cons hd]
    · rw [if_neg c2] at L1
      rw [L1, hend] at hx
      exact absurd rfl hx
/-- who is put behind changes nothing of the others -/
theorem last_behind (e : Nat → Nat) (sp : Nat → Nat → Nat) (n : Nat) (hn : n < 7) (e2 : e 2 < 256) (h8 : ∀ i, i < n → sp i 2 < 256) (x : Nat)
    (hx : ¬ spC 16384 (bMem T 16128 sp n) r0 r1 126 0 line x = 0) : spC 16384 (bMem T 16128 (spSnoc sp n e) (n + 1)) r0 r1 126 0 line x = spC 16384 (bMem T 16128 sp n) r0 r1 126 0 line x := by
  have hs : ∀ i, i < n → ∀ k, spSnoc sp n e i k = sp i k := fun i hi k => by unfold spSnoc; rw [if_pos hi]
  obtain ⟨r, hr⟩ := spFrom_prefix (Y := spY 16384 (bMem T 16128 sp n) 126) (Y' := spY 16384 (bMem T 16128 (spSnoc sp n e) (n + 1)) 126) (h := spH r1) (line := line) n (by exact mem_end (by omega)) 64 0 (Nat.zero_le _) (fun m _ hm => by
    show mem 16384 (bMem T 16128 sp n) (16128 + m) = mem 16384 (bMem T 16128 (spSnoc sp n e) (n + 1)) (16128 + m)
    rw [mem_y (by omega) hm, mem_y (by omega) (by omega), hs m hm])
  have l1 := spL_len T r1 line sp n (by omega)
  have l2 := spL_len T r1 line (spSnoc sp n e) (n + 1) (by omega)
  have eL : spL 16384 (bMem T 16128 (spSnoc sp n e) (n + 1)) r1 126 line = spL 16384 (bMem T 16128 sp n) r1 126 line ++ r := hr
  unfold spC spDots at hx ⊢
  rw [List.take_of_length_le (by omega)] at hx ⊢
  rw [List.take_of_length_le (by omega), eL, List.map_append]
  have em : (spL 16384 (bMem T 16128 sp n) r1 126 line).map (spDot 16384 (bMem T 16128 (spSnoc sp n e) (n + 1)) r0 r1 126 0 line x) = (spL 16384 (bMem T 16128 sp n) r1 126 line).map (spDot 16384 (bMem T 16128 sp n) r0 r1 126 0 line x) := by
    refine List.map_congr_left fun i hi => ?_
    have hi' : i < n := spFrom_before (Y := spY 16384 (bMem T 16128 sp n) 126) n (by exact mem_end (by omega)) 64 0 (Nat.zero_le _) i hi
    rw [spDot_mem' T r0 r1 line (spSnoc sp n e) (n + 1) (by omega) (fun i hi => by
      unfold spSnoc
      split
      · exact h8 _ (by assumption)
      · exact e2) x i (by omega), spDot_mem' T r0 r1 line sp n (by omega) h8 x i hi', hs i hi', hs i hi', hs i hi']
  rw [em]
  exact spCol_append _ _ hx
end

set_option maxRecDepth 100000 in
set_option maxHeartbeats 1600000 in
theorem first_o0 (a1 a2 : Option Addr) (n1 c1 n2 c2 : Nat) (r0 r1 r2 r3 r4 r5 r6 r7 r8 r9 r10 e0 e1 e2 : Nat) (w : World) (l1 : 64 < n1) :
    Calls Try.prog 6 #[.agg #[.slice a1 n1 c1, .slice a2 n2 c2], regsV r0 r1 r2 r3 r4 r5 r6 r7 r8 r9 r10, .agg #[.int .u8 (e0 : Int), .int .u8 (e1 : Int), .int .u8 (e2 : Int)]] w fun e w' => e = .returned (.bool true) ∧ Below w.heap.size w w' := by
  have HM := Lib.hid (Own.start w)
  have tg1 : Hid True := trivial
  have tg2 : Hid True := trivial
  have tg3 : Hid True := trivial
  have L1 := Lib.hid l1
  clear l1
  go_enter Try.func6, Try.ntmps6
  go_upto_region 3 with (first | ((with_reducible apply own_box HM); exact rfl; (conv => lhs; whnf); exact rfl; exact rfl; (first | (clear tg1; intro w' g1 HM') | (clear tg2; intro w' g2 HM') | (clear tg3; intro w' g3 HM') | (clear tg4; intro w' g4 HM') | (clear tg5; intro w' g5 HM') | (clear tg6; intro w' g6 HM') | (clear tg7; intro w' g7 HM') | (clear tg8; intro w' g8 HM') | (clear tg9; intro w' g9 HM') | intro w' g' HM'); clear HM; have HM := HM'; clear HM'; all_goals skip) | ((with_reducible apply own_alloc HM); exact rfl; (first | (with_reducible exact zeroP) | (with_reducible exact zero11) | (with_reducible exact zero3) | (with_reducible exact zeroRow)); exact rfl; (first | (clear tg1; intro w' g1 HM') | (clear tg2; intro w' g2 HM') | (clear tg3; intro w' g3 HM') | (clear tg4; intro w' g4 HM') | (clear tg5; intro w' g5 HM') | (clear tg6; intro w' g6 HM') | (clear tg7; intro w' g7 HM') | (clear tg8; intro w' g8 HM') | (clear tg9; intro w' g9 HM') | intro w' g' HM'); clear HM; have HM := HM'; clear HM'; all_goals skip) | ((with_reducible apply own_cell HM); exact rfl; exact rfl; (first | (with_reducible exact oneInt) | (with_reducible exact oneBool) | (with_reducible exact oneU8) | (with_reducible exact oneBs) | (with_reducible exact oneTs)); (first | with_reducible exact .z | with_reducible exact .s .z | with_reducible exact .s (.s .z) | with_reducible exact .s (.s (.s .z)) | with_reducible exact .s (.s (.s (.s .z))) | with_reducible exact .s (.s (.s (.s (.s .z))))); (focus repeat' (first | with_reducible exact .z | with_reducible apply Drop.s)); exact rfl; all_goals skip) | ((with_reducible apply own_load HM); exact rfl; exact rfl; (first | (with_reducible exact aggP) | (with_reducible exact agg11) | (with_reducible exact agg3)); (first | with_reducible exact .z | with_reducible exact .s .z | with_reducible exact .s (.s .z) | with_reducible exact .s (.s (.s .z)) | with_reducible exact .s (.s (.s (.s .z))) | with_reducible exact .s (.s (.s (.s (.s .z))))); (focus repeat' (first | with_reducible exact .z | with_reducible apply Drop.s)); (focus repeat' (first | with_reducible exact .z | with_reducible apply Take.s)); exact rfl; all_goals skip) | ((with_reducible apply own_store HM); exact rfl; exact rfl; (conv => lhs; whnf); exact rfl; (first | with_reducible exact .z | with_reducible exact .s .z | with_reducible exact .s (.s .z) | with_reducible exact .s (.s (.s .z)) | with_reducible exact .s (.s (.s (.s .z))) | with_reducible exact .s (.s (.s (.s (.s .z))))); (focus repeat' (first | with_reducible exact .z | with_reducible apply Over.p | with_reducible apply Over.s)); (first | with_reducible exact .z | with_reducible exact .s .z | with_reducible exact .s (.s .z) | with_reducible exact .s (.s (.s .z)) | with_reducible exact .s (.s (.s (.s .z))) | with_reducible exact .s (.s (.s (.s (.s .z))))); (first | (with_reducible exact (aggP).size) | (with_reducible exact (agg11).size) | (with_reducible exact (agg3).size) | (with_reducible exact (oneInt).size) | (with_reducible exact (oneBool).size) | (with_reducible exact (oneU8).size) | (with_reducible exact (oneBs).size) | (with_reducible exact (oneTs).size)); exact rfl; exact rfl; exact rfl; exact rfl; intro w' HM'; clear HM; have HM := HM'; clear HM'; all_goals skip) | (go_at_call 9; (with_reducible refine (alive_any _).mono ?_); rintro e w' ⟨rfl, hb⟩; have HM' := Lib.hid (HM.out.call hb); clear HM hb; have HM := HM'; clear HM'))
  (refine own_inorder HM ?_; (try simp only [Act.put, List.setIfInBounds_toArray, List.set_cons_zero, List.set_cons_succ]); repeat ((fail_if_success (with_reducible refine wpQuiet_nil ?_)); first | go_big_quiet_skip | (go_big_quiet_want; first | ((with_reducible apply quiet_load); exact rfl; (first | (with_reducible exact aggP)); (first | with_reducible exact .z | with_reducible exact .s .z | with_reducible exact .s (.s .z) | with_reducible exact .s (.s (.s .z)) | with_reducible exact .s (.s (.s (.s .z))) | with_reducible exact .s (.s (.s (.s (.s .z))))); (focus repeat' (first | with_reducible exact .z | with_reducible apply Drop.s)); (focus repeat' (first | with_reducible exact .z | with_reducible apply Take.s)); go_big_quiet_op; go_big_quiet_on) | ((with_reducible apply quiet_cell); exact rfl; (first | (with_reducible exact oneTs) | (with_reducible exact oneInt) | (with_reducible exact oneBool) | (with_reducible exact oneU8) | (with_reducible exact oneBs)); (first | with_reducible exact .z | with_reducible exact .s .z | with_reducible exact .s (.s .z) | with_reducible exact .s (.s (.s .z)) | with_reducible exact .s (.s (.s (.s .z))) | with_reducible exact .s (.s (.s (.s (.s .z))))); (focus repeat' (first | with_reducible exact .z | with_reducible apply Drop.s)); go_big_quiet_op; go_big_quiet_on) | (go_big_quiet_op; go_big_quiet_on) | ((with_reducible apply quiet_call); exact fun w => rfl; (focus (go_simp; all_goals with_reducible rfl)); (intro wq HQ; first | (with_reducible exact great_0 a1 a2 n1 c1 n2 c2 _ L1.out)); go_big_quiet_op; go_big_quiet_on) | (go_big_quiet_op; go_big_quiet_on) | (go_big_quiet_op; refine ⟨_, fun _ _ => rfl, ?_⟩; go_big_quiet_on))))
  refine wpQuiet_nil ?_
  intro w' HM'
  clear HM; have HM := HM'; clear HM'
  go_wp2_with fail
  go_ret
  exact ⟨rfl, Own.fin HM⟩

set_option maxRecDepth 100000 in
set_option maxHeartbeats 1600000 in
theorem first_o1 (a1 a2 : Option Addr) (n1 c1 n2 c2 : Nat) (r0 r1 r2 r3 r4 r5 r6 r7 r8 r9 r10 e0 e1 e2 : Nat) (w : World) (l1 : n1 ≤ 64) (l2 : 300 < n2) :
    Calls Try.prog 6 #[.agg #[.slice a1 n1 c1, .slice a2 n2 c2], regsV r0 r1 r2 r3 r4 r5 r6 r7 r8 r9 r10, .agg #[.int .u8 (e0 : Int), .int .u8 (e1 : Int), .int .u8 (e2 : Int)]] w fun e w' => e = .returned (.bool true) ∧ Below w.heap.size w w' := by
  have HM := Lib.hid (Own.start w)
  have tg1 : Hid True := trivial
  have tg2 : Hid True := trivial
  have tg3 : Hid True := trivial
  have L1 := Lib.hid l1
  have L2 := Lib.hid l2
  clear l1 l2
  go_enter Try.func6, Try.ntmps6
  go_upto_region 3 with (first | ((with_reducible apply own_box HM); exact rfl; (conv => lhs; whnf); exact rfl; exact rfl; (first | (clear tg1; intro w' g1 HM') | (clear tg2; intro w' g2 HM') | (clear tg3; intro w' g3 HM') | (clear tg4; intro w' g4 HM') | (clear tg5; intro w' g5 HM') | (clear tg6; intro w' g6 HM') | (clear tg7; intro w' g7 HM') | (clear tg8; intro w' g8 HM') | (clear tg9; intro w' g9 HM') | intro w' g' HM'); clear HM; have HM := HM'; clear HM'; all_goals skip) | ((with_reducible apply own_alloc HM); exact rfl; (first | (with_reducible exact zeroP) | (with_reducible exact zero11) | (with_reducible exact zero3) | (with_reducible exact zeroRow)); exact rfl; (first | (clear tg1; intro w' g1 HM') | (clear tg2; intro w' g2 HM') | (clear tg3; intro w' g3 HM') | (clear tg4; intro w' g4 HM') | (clear tg5; intro w' g5 HM') | (clear tg6; intro w' g6 HM') | (clear tg7; intro w' g7 HM') | (clear tg8; intro w' g8 HM') | (clear tg9; intro w' g9 HM') | intro w' g' HM'); clear HM; have HM := HM'; clear HM'; all_goals skip) | ((with_reducible apply own_cell HM); exact rfl; exact rfl; (first | (with_reducible exact oneInt) | (with_reducible exact oneBool) | (with_reducible exact oneU8) | (with_reducible exact oneBs) | (with_reducible exact oneTs)); (first | with_reducible exact .z | with_reducible exact .s .z | with_reducible exact .s (.s .z) | with_reducible exact .s (.s (.s .z)) | with_reducible exact .s (.s (.s (.s .z))) | with_reducible exact .s (.s (.s (.s (.s .z))))); (focus repeat' (first | with_reducible exact .z | with_reducible apply Drop.s)); exact rfl; all_goals skip) | ((with_reducible apply own_load HM); exact rfl; exact rfl; (first | (with_reducible exact aggP) | (with_reducible exact agg11) | (with_reducible exact agg3)); (first | with_reducible exact .z | with_reducible exact .s .z | with_reducible exact .s (.s .z) | with_reducible exact .s (.s (.s .z)) | with_reducible exact .s (.s (.s (.s .z))) | with_reducible exact .s (.s (.s (.s (.s .z))))); (focus repeat' (first | with_reducible exact .z | with_reducible apply Drop.s)); (focus repeat' (first | with_reducible exact .z | with_reducible apply Take.s)); exact rfl; all_goals skip) | ((with_reducible apply own_store HM); exact rfl; exact rfl; (conv => lhs; whnf); exact rfl; (first | with_reducible exact .z | with_reducible exact .s .z | with_reducible exact .s (.s .z) | with_reducible exact .s (.s (.s .z)) | with_reducible exact .s (.s (.s (.s .z))) | with_reducible exact .s (.s (.s (.s (.s .z))))); (focus repeat' (first | with_reducible exact .z | with_reducible apply Over.p | with_reducible apply Over.s)); (first | with_reducible exact .z | with_reducible exact .s .z | with_reducible exact .s (.s .z) | with_reducible exact .s (.s (.s .z)) | with_reducible exact .s (.s (.s (.s .z))) | with_reducible exact .s (.s (.s (.s (.s .z))))); (first | (with_reducible exact (aggP).size) | (with_reducible exact (agg11).size) | (with_reducible exact (agg3).size) | (with_reducible exact (oneInt).size) | (with_reducible exact (oneBool).size) | (with_reducible exact (oneU8).size) | (with_reducible exact (oneBs).size) | (with_reducible exact (oneTs).size)); exact rfl; exact rfl; exact rfl; exact rfl; intro w' HM'; clear HM; have HM := HM'; clear HM'; all_goals skip) | (go_at_call 9; (with_reducible refine (alive_any _).mono ?_); rintro e w' ⟨rfl, hb⟩; have HM' := Lib.hid (HM.out.call hb); clear HM hb; have HM := HM'; clear HM'))
  (refine own_inorder HM ?_; (try simp only [Act.put, List.setIfInBounds_toArray, List.set_cons_zero, List.set_cons_succ]); repeat ((fail_if_success (with_reducible refine wpQuiet_nil ?_)); first | go_big_quiet_skip | (go_big_quiet_want; first | ((with_reducible apply quiet_load); exact rfl; (first | (with_reducible exact aggP)); (first | with_reducible exact .z | with_reducible exact .s .z | with_reducible exact .s (.s .z) | with_reducible exact .s (.s (.s .z)) | with_reducible exact .s (.s (.s (.s .z))) | with_reducible exact .s (.s (.s (.s (.s .z))))); (focus repeat' (first | with_reducible exact .z | with_reducible apply Drop.s)); (focus repeat' (first | with_reducible exact .z | with_reducible apply Take.s)); go_big_quiet_op; go_big_quiet_on) | ((with_reducible apply quiet_cell); exact rfl; (first | (with_reducible exact oneTs) | (with_reducible exact oneInt) | (with_reducible exact oneBool) | (with_reducible exact oneU8) | (with_reducible exact oneBs)); (first | with_reducible exact .z | with_reducible exact .s .z | with_reducible exact .s (.s .z) | with_reducible exact .s (.s (.s .z)) | with_reducible exact .s (.s (.s (.s .z))) | with_reducible exact .s (.s (.s (.s (.s .z))))); (focus repeat' (first | with_reducible exact .z | with_reducible apply Drop.s)); go_big_quiet_op; go_big_quiet_on) | (go_big_quiet_op; go_big_quiet_on) | ((with_reducible apply quiet_call); exact fun w => rfl; (focus (go_simp; all_goals with_reducible rfl)); (intro wq HQ; first | (with_reducible exact great_1 a1 a2 n1 c1 n2 c2 _ L1.out L2.out)); go_big_quiet_op; go_big_quiet_on) | (go_big_quiet_op; go_big_quiet_on) | (go_big_quiet_op; refine ⟨_, fun _ _ => rfl, ?_⟩; go_big_quiet_on))))
  refine wpQuiet_nil ?_
  intro w' HM'
  clear HM; have HM := HM'; clear HM'
  go_wp2_with fail
  go_ret
  exact ⟨rfl, Own.fin HM⟩

set_option maxRecDepth 100000 in
set_option maxHeartbeats 1600000 in
theorem first_o2 (a1 a2 : Option Addr) (n1 c1 n2 c2 : Nat) (r0 r1 r2 r3 r4 r5 r6 r7 r8 r9 r10 e0 e1 e2 : Nat) (w : World) (l1 : n1 ≤ 64) (l2 : n2 ≤ 300) (l3 : 6 < n1) :
    Calls Try.prog 6 #[.agg #[.slice a1 n1 c1, .slice a2 n2 c2], regsV r0 r1 r2 r3 r4 r5 r6 r7 r8 r9 r10, .agg #[.int .u8 (e0 : Int), .int .u8 (e1 : Int), .int .u8 (e2 : Int)]] w fun e w' => e = .returned (.bool true) ∧ Below w.heap.size w w' := by
  have HM := Lib.hid (Own.start w)
  have tg1 : Hid True := trivial
  have tg2 : Hid True := trivial
  have tg3 : Hid True := trivial
  have L1 := Lib.hid l1
  have L2 := Lib.hid l2
  have K3 : ((6 : Int) < (n1 : Int)) = True := by rw [eq_iff_iff, iff_true]; omega
  clear l1 l2 l3
  go_enter Try.func6, Try.ntmps6
  go_upto_region 3 with (first | ((with_reducible apply own_box HM); exact rfl; (conv => lhs; whnf); exact rfl; exact rfl; (first | (clear tg1; intro w' g1 HM') | (clear tg2; intro w' g2 HM') | (clear tg3; intro w' g3 HM') | (clear tg4; intro w' g4 HM') | (clear tg5; intro w' g5 HM') | (clear tg6; intro w' g6 HM') | (clear tg7; intro w' g7 HM') | (clear tg8; intro w' g8 HM') | (clear tg9; intro w' g9 HM') | intro w' g' HM'); clear HM; have HM := HM'; clear HM'; all_goals skip) | ((with_reducible apply own_alloc HM); exact rfl; (first | (with_reducible exact zeroP) | (with_reducible exact zero11) | (with_reducible exact zero3) | (with_reducible exact zeroRow)); exact rfl; (first | (clear tg1; intro w' g1 HM') | (clear tg2; intro w' g2 HM') | (clear tg3; intro w' g3 HM') | (clear tg4; intro w' g4 HM') | (clear tg5; intro w' g5 HM') | (clear tg6; intro w' g6 HM') | (clear tg7; intro w' g7 HM') | (clear tg8; intro w' g8 HM') | (clear tg9; intro w' g9 HM') | intro w' g' HM'); clear HM; have HM := HM'; clear HM'; all_goals skip) | ((with_reducible apply own_cell HM); exact rfl; exact rfl; (first | (with_reducible exact oneInt) | (with_reducible exact oneBool) | (with_reducible exact oneU8) | (with_reducible exact oneBs) | (with_reducible exact oneTs)); (first | with_reducible exact .z | with_reducible exact .s .z | with_reducible exact .s (.s .z) | with_reducible exact .s (.s (.s .z)) | with_reducible exact .s (.s (.s (.s .z))) | with_reducible exact .s (.s (.s (.s (.s .z))))); (focus repeat' (first | with_reducible exact .z | with_reducible apply Drop.s)); exact rfl; all_goals skip) | ((with_reducible apply own_load HM); exact rfl; exact rfl; (first | (with_reducible exact aggP) | (with_reducible exact agg11) | (with_reducible exact agg3)); (first | with_reducible exact .z | with_reducible exact .s .z | with_reducible exact .s (.s .z) | with_reducible exact .s (.s (.s .z)) | with_reducible exact .s (.s (.s (.s .z))) | with_reducible exact .s (.s (.s (.s (.s .z))))); (focus repeat' (first | with_reducible exact .z | with_reducible apply Drop.s)); (focus repeat' (first | with_reducible exact .z | with_reducible apply Take.s)); exact rfl; all_goals skip) | ((with_reducible apply own_store HM); exact rfl; exact rfl; (conv => lhs; whnf); exact rfl; (first | with_reducible exact .z | with_reducible exact .s .z | with_reducible exact .s (.s .z) | with_reducible exact .s (.s (.s .z)) | with_reducible exact .s (.s (.s (.s .z))) | with_reducible exact .s (.s (.s (.s (.s .z))))); (focus repeat' (first | with_reducible exact .z | with_reducible apply Over.p | with_reducible apply Over.s)); (first | with_reducible exact .z | with_reducible exact .s .z | with_reducible exact .s (.s .z) | with_reducible exact .s (.s (.s .z)) | with_reducible exact .s (.s (.s (.s .z))) | with_reducible exact .s (.s (.s (.s (.s .z))))); (first | (with_reducible exact (aggP).size) | (with_reducible exact (agg11).size) | (with_reducible exact (agg3).size) | (with_reducible exact (oneInt).size) | (with_reducible exact (oneBool).size) | (with_reducible exact (oneU8).size) | (with_reducible exact (oneBs).size) | (with_reducible exact (oneTs).size)); exact rfl; exact rfl; exact rfl; exact rfl; intro w' HM'; clear HM; have HM := HM'; clear HM'; all_goals skip) | (go_at_call 9; (with_reducible refine (alive_any _).mono ?_); rintro e w' ⟨rfl, hb⟩; have HM' := Lib.hid (HM.out.call hb); clear HM hb; have HM := HM'; clear HM'))
  (refine own_inorder HM ?_; (try simp only [Act.put, List.setIfInBounds_toArray, List.set_cons_zero, List.set_cons_succ]); repeat ((fail_if_success (with_reducible refine wpQuiet_nil ?_)); first | go_big_quiet_skip | (go_big_quiet_want; first | ((with_reducible apply quiet_load); exact rfl; (first | (with_reducible exact aggP)); (first | with_reducible exact .z | with_reducible exact .s .z | with_reducible exact .s (.s .z) | with_reducible exact .s (.s (.s .z)) | with_reducible exact .s (.s (.s (.s .z))) | with_reducible exact .s (.s (.s (.s (.s .z))))); (focus repeat' (first | with_reducible exact .z | with_reducible apply Drop.s)); (focus repeat' (first | with_reducible exact .z | with_reducible apply Take.s)); go_big_quiet_op; go_big_quiet_on) | ((with_reducible apply quiet_cell); exact rfl; (first | (with_reducible exact oneTs) | (with_reducible exact oneInt) | (with_reducible exact oneBool) | (with_reducible exact oneU8) | (with_reducible exact oneBs)); (first | with_reducible exact .z | with_reducible exact .s .z | with_reducible exact .s (.s .z) | with_reducible exact .s (.s (.s .z)) | with_reducible exact .s (.s (.s (.s .z))) | with_reducible exact .s (.s (.s (.s (.s .z))))); (focus repeat' (first | with_reducible exact .z | with_reducible apply Drop.s)); go_big_quiet_op; go_big_quiet_on) | (go_big_quiet_op; go_big_quiet_on) | ((with_reducible apply quiet_call); exact fun w => rfl; (focus (go_simp; all_goals with_reducible rfl)); (intro wq HQ; first | (with_reducible exact great_2 a1 a2 n1 c1 n2 c2 _ L1.out L2.out)); go_big_quiet_op; go_big_quiet_on) | (go_big_quiet_op; go_big_quiet_on) | (go_big_quiet_op; refine ⟨_, fun _ _ => rfl, ?_⟩; go_big_quiet_on))))
  refine wpQuiet_nil ?_
  intro w' HM'
  clear HM; have HM := HM'; clear HM'
  clear K3
  go_wp2_with fail
  go_ret
  exact ⟨rfl, Own.fin HM⟩

theorem build_f (a1 a2 : Option Addr) (n1 c1 n2 c2 : Nat) (sp : Nat → Nat → Nat) (tl : Nat → Nat) (r0 r1 r2 r3 r4 r7 r8 r9 r10 : Nat) (w : World) (h1 : TriRow w a1 n1 sp) (h2 : ByteRow w a2 n2 tl) (l1 : n1 ≤ 64) (l2 : n2 ≤ 300) (ys : Nat → Nat) (hy : Hid (bMem (bTile tl n2) 16128 sp n1 = ys)) :
    Calls Try.prog 12 #[.agg #[.slice a1 n1 c1, .slice a2 n2 c2], .agg #[.int .u8 (r0 : Int), .int .u8 (r1 : Int), .int .u8 (r2 : Int), .int .u8 (r3 : Int), .int .u8 (r4 : Int), .int .u8 126, .int .u8 0, .int .u8 (r7 : Int), .int .u8 (r8 : Int), .int .u8 (r9 : Int), .int .u8 (r10 : Int)]] w fun e w' => ∃ g, e = .returned (.slice (some ⟨g, 0, none⟩) 16384 16384) ∧ w.heap.size ≤ g ∧ Whole w' g 5 (b8 16384 ys) ∧ Below w.heap.size w w' := by
  have h := build_any a1 a2 n1 c1 n2 c2 sp tl r0 r1 r2 r3 r4 126 0 r7 r8 r9 r10 16128 (by decide) rfl w h1 h2 l1 l2 _ rfl
  rw [hy.out] at h
  exact h
theorem line_f (a : Option Addr) (n cap : Nat) (xs : Nat → Nat) (r0 r1 r2 r3 r4 r7 r8 r9 r10 : Nat) (line : Int) (b0 : r0 < 256) (b1 : r1 < 256) (l0 : 0 ≤ line) (l1 : line ≤ 191) (f : Nat → Nat) (o c : Bool) (hf : Hid (spC n xs r0 r1 126 0 line = f)) (ho : Hid (spO n xs r1 126 line = o)) (hc : Hid (spK n xs r0 r1 126 0 line = c)) (w : World) (hV : ByteRow w a n xs) :
    Calls Try.prog 15 #[.slice a n cap, .agg #[.int .u8 (r0 : Int), .int .u8 (r1 : Int), .int .u8 (r2 : Int), .int .u8 (r3 : Int), .int .u8 (r4 : Int), .int .u8 126, .int .u8 0, .int .u8 (r7 : Int), .int .u8 (r8 : Int), .int .u8 (r9 : Int), .int .u8 (r10 : Int)], .int .i64 line] w fun e w' => e = .returned (rowV f o c) ∧ Below w.heap.size w w' :=
  line_in a n cap xs r0 r1 r2 r3 r4 126 0 r7 r8 r9 r10 line b0 b1 (by decide) (by decide) l0 l1 f o c hf ho hc w hV
def ev3 (e0 e1 e2 : Nat) : Nat → Nat := fun k => if k = 0 then e0 else if k = 1 then e1 else e2
theorem ev3_lt (e0 e1 e2 : Nat) (b0 : e0 < 256) (b1 : e1 < 256) (b2 : e2 < 256) (k : Nat) : ev3 e0 e1 e2 k < 256 := by unfold ev3; split; exact b0; split; exact b1; exact b2
theorem tri_one {W0 w : World} {l : List (Nat × TypeId × List Value)} {g : Nat} {t : TypeId} {e0 e1 e2 : Nat} (h : Own W0 w l) (hs : Sel l g t [.int .u8 (e0 : Int), .int .u8 (e1 : Int), .int .u8 (e2 : Int)]) (b0 : e0 < 256) (b1 : e1 < 256) (b2 : e2 < 256) : TriRow w (some ⟨g, 0, none⟩) 1 (fun _ => ev3 e0 e1 e2) := by
  intro _
  have hw := (h.whole _ hs.mem).2
  refine ⟨g, 0, rfl, hw.inside, fun i hi k hk => ⟨?_, ev3_lt e0 e1 e2 b0 b1 b2 k⟩⟩
  obtain rfl : i = 0 := by omega
  rw [hw.at_]
  match k, hk with
  | 0, _ => rfl
  | 1, _ => rfl
  | 2, _ => rfl
theorem blt_pic2 (a b : Option Addr) (n c m d : Nat) (w : World) : (Instr.build 31 #[(0, .slice a n c), (1, .slice b m d)]).run Try.prog w = .ok (.agg #[.slice a n c, .slice b m d]) w := by kernel_rfl
theorem made_t0 (w : World) : (Instr.buildSlice 29 0 #[]).run Try.prog w = .ok (.slice (some ⟨w.heap.size, 0, none⟩) 0 0) (w.alloc (.cells ([] : List Value).toArray 36)) := by kernel_rfl

end Go.Proofs.Ytcefgcoibppdaaa
