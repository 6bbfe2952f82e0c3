import Derived.Test.YtljjgakfnajifaaGreatDoorZNdRef3
import Derived.Test.YtljjgakfnajifaaGreatDoorZNdRef7n
import Derived.Test.YtljjgakfnajifaaGreatDoorZNdRef8
set_option linter.unusedSimpArgs false
set_option linter.unusedVariables false
namespace Go.Proofs.YtljjgakfnajifaaGreatDoor
theorem index_skip (h : UInt8) (m' : Tx) : ∀ (a r : Tx), h ∉ a → Lib.index (a ++ r) (h :: m') = if Lib.index r (h :: m') = -1 then -1 else (a.length : Int) + Lib.index r (h :: m')
  | [], r, _ => by
    rw [List.nil_append]
    split
    · assumption
    · simp
  | c :: a, r, hc => by
    have ih := index_skip h m' a r (fun hx => hc (List.mem_cons_of_mem _ hx))
    have hne : (h :: m').isPrefixOf (c :: (a ++ r)) = false := by
      have : (h == c) = false := by rw [beq_eq_false_iff_ne]; rintro rfl; exact hc (List.mem_cons_self ..)
      simp [List.isPrefixOf, this]
    rw [List.cons_append, Lib.index, hne, if_neg (by decide), ih]
    by_cases hr : Lib.index r (h :: m') = -1
    · rw [if_pos hr, if_pos hr]; rfl
    · have hge := Lib.index_ge r (h :: m')
      have hx : ((a.length : Int) + Lib.index r (h :: m') == -1) = false := by rw [beq_eq_false_iff_ne]; omega
      rw [if_neg hr, if_neg hr, hx, if_neg (by decide), List.length_cons]
      omega
theorem index_none (h : UInt8) (m' a : Tx) (ha : h ∉ a) : Lib.index a (h :: m') = -1 := by
  have h1 := index_skip h m' a [] ha
  rw [List.append_nil] at h1
  have h2 : Lib.index [] (h :: m') = -1 := by rw [Lib.index]; rfl
  rw [h1, if_pos h2]
theorem index_self (h : UInt8) (m' c : Tx) : Lib.index ((h :: m') ++ c) (h :: m') = 0 := by
  have hp : (h :: m').isPrefixOf ((h :: m') ++ c) = true := by
    rw [List.isPrefixOf_iff_prefix]; exact List.prefix_append _ _
  rw [List.cons_append] at hp ⊢
  rw [Lib.index, hp, if_pos rfl]
theorem cut_hit (h : UInt8) (m' a c : Tx) (ha : h ∉ a) : Lib.cut (a ++ ((h :: m') ++ c)) (h :: m') = (a, c, true) := by
  have hi : Lib.index (a ++ ((h :: m') ++ c)) (h :: m') = (a.length : Int) := by
    rw [index_skip h m' a _ ha, index_self, if_neg (by decide)]; omega
  rw [Lib.cut, hi, if_pos (by omega)]
  have e1 : (a ++ ((h :: m') ++ c)).take (a.length : Int).toNat = a := by simp
  have e2 : (a ++ ((h :: m') ++ c)).drop ((a.length : Int).toNat + (h :: m').length) = c := by
    rw [Int.toNat_natCast, ← List.append_assoc, show a.length + (h :: m').length = (a ++ (h :: m')).length by simp, List.drop_left]
  rw [e1, e2]
theorem cut_miss (s m : Tx) (hi : Lib.index s m = -1) : Lib.cut s m = (s, [], false) := by
  rw [Lib.cut, hi, if_neg (by decide)]
theorem step_hit (bs : List Nat) (h : UInt8) (m' a c : Tx) (nx : Nat) (ha : h ∉ a) : cStep bs (h :: m') (a ++ ((h :: m') ++ c), nx) = (a ++ (cText (h :: m') (bs.getD nx 0) (bs.getD (nx + 1) 0) ++ c), nx + cSize (h :: m')) := by
  rw [cStep]
  show (if (Lib.cut (a ++ ((h :: m') ++ c)) (h :: m')).2.2 = true then _ else _) = _
  rw [cut_hit h m' a c ha, if_pos rfl]
theorem step_miss (bs : List Nat) (m s : Tx) (nx : Nat) (hi : Lib.index s m = -1) : cStep bs m (s, nx) = (s, nx) := by
  rw [cStep]
  show (if (Lib.cut s m).2.2 = true then _ else _) = _
  rw [cut_miss s m hi, if_neg (by show ¬ false = true; decide)]
theorem index_nn (a c : Tx) (ha : 110 ∉ a) (hc : 110 ∉ c) : Lib.index (a ++ (110 :: c)) [110, 110] = -1 := by
  have h2 : Lib.index (110 :: c) [110, 110] = -1 := by
    have hp : ([110, 110] : Tx).isPrefixOf (110 :: c) = false := by
      cases c with
      | nil => rfl
      | cons x r =>
        have : ((110 : UInt8) == x) = false := by rw [beq_eq_false_iff_ne]; rintro rfl; exact hc (List.mem_cons_self ..)
        simp [List.isPrefixOf, this]
    rw [Lib.index, hp, if_neg (by decide), index_none 110 [110] c hc]
    rfl
  rw [index_skip 110 [110] a _ ha, if_pos h2]
theorem repl_skip (h : UInt8) (m' by' : Tx) : ∀ (a r : Tx), h ∉ a → rReplace (a ++ r) (h :: m') by' = a ++ rReplace r (h :: m') by'
  | [], r, _ => rfl
  | c :: a, r, hc => by
    have hne : (h :: m').isPrefixOf (c :: (a ++ r)) = false := by
      have : (h == c) = false := by rw [beq_eq_false_iff_ne]; rintro rfl; exact hc (List.mem_cons_self ..)
      simp [List.isPrefixOf, this]
    rw [List.cons_append, repl_miss c _ _ by' hne, repl_skip h m' by' a r (fun hx => hc (List.mem_cons_of_mem _ hx))]
    rfl
theorem repl_none (h : UInt8) (m' by' a : Tx) (ha : h ∉ a) : rReplace a (h :: m') by' = a := by
  have := repl_skip h m' by' a [] ha
  rwa [List.append_nil, repl_nil, List.append_nil] at this
theorem repl_one (h : UInt8) (m' by' a c : Tx) (ha : h ∉ a) (hc : h ∉ c) : rReplace (a ++ ((h :: m') ++ c)) (h :: m') by' = a ++ (by' ++ c) := by
  have hp : (h :: m').isPrefixOf ((h :: m') ++ c) = true := by
    rw [List.isPrefixOf_iff_prefix]; exact List.prefix_append _ _
  rw [repl_skip h m' by' a _ ha, repl_hit _ _ by' (by simp) hp (by simp), List.drop_left, repl_none h m' by' c hc]
theorem repl_nn (by' a c : Tx) (ha : 110 ∉ a) (hc : 110 ∉ c) : rReplace (a ++ (110 :: c)) [110, 110] by' = a ++ (110 :: c) := by
  have hp : ([110, 110] : Tx).isPrefixOf (110 :: c) = false := by
    cases c with
    | nil => rfl
    | cons x r =>
      have : ((110 : UInt8) == x) = false := by rw [beq_eq_false_iff_ne]; rintro rfl; exact hc (List.mem_cons_self ..)
      simp [List.isPrefixOf, this]
  rw [repl_skip 110 [110] by' a _ ha, repl_miss 110 c _ by' hp, repl_none 110 [110] by' c hc]
theorem has_none (h : UInt8) (m' a : Tx) (ha : h ∉ a) : rHas a (h :: m') = false := by
  rw [rHas, repl_none h m' [] a ha]; simp
theorem has_nn (a c : Tx) (ha : 110 ∉ a) (hc : 110 ∉ c) : rHas (a ++ (110 :: c)) [110, 110] = false := by
  rw [rHas, repl_nn [] a c ha hc]; simp
theorem has_one (h : UInt8) (m' a c : Tx) (ha : h ∉ a) (hc : h ∉ c) : rHas (a ++ ((h :: m') ++ c)) (h :: m') = true := by
  rw [rHas, repl_one h m' [] a c ha hc]
  have : (a ++ ([] ++ c) == a ++ ((h :: m') ++ c)) = false := by
    rw [beq_eq_false_iff_ne]
    intro he
    have := congrArg List.length he
    simp at this
    omega
  rw [this]; rfl
def Cl (t : Tx) : Prop := 110 ∉ t ∧ 101 ∉ t
theorem Cl.append {a b : Tx} (ha : Cl a) (hb : Cl b) : Cl (a ++ b) := ⟨fun h => (List.mem_append.1 h).elim ha.1 hb.1, fun h => (List.mem_append.1 h).elim ha.2 hb.2⟩
theorem hexd_cl (n : Nat) (hn : n < 16) : hexd n ≠ 110 ∧ hexd n ≠ 101 := by
  have : ∀ n < 16, hexd n ≠ 110 ∧ hexd n ≠ 101 := by decide +kernel
  exact this n hn
theorem cl_hex (v : Nat) (hv : v < 256) : Cl (hex2 v) := by
  have h1 := hexd_cl (v / 16) (by omega)
  have h2 := hexd_cl (v % 16) (by omega)
  refine ⟨?_, ?_⟩ <;> (intro h; rw [hex2] at h; simp only [List.mem_cons, List.not_mem_nil, or_false] at h; rcases h with h | h)
  · exact h1.1 h.symm
  · exact h2.1 h.symm
  · exact h1.2 h.symm
  · exact h2.2 h.symm
theorem cl_sgn (v : Nat) (hv : v < 256) : Cl (sgn v) := by
  have hall : ∀ v < 256, (sgn v).all (fun x => x != 110 && x != 101) = true := by decide +kernel
  have h := List.all_eq_true.1 (hall v hv)
  refine ⟨fun hm => ?_, fun hm => ?_⟩
  · have := h _ hm; simp at this
  · have := h _ hm; simp at this
end Go.Proofs.YtljjgakfnajifaaGreatDoor
namespace Go.Proofs.YtljjgakfnajifaaGreatDoor
inductive Kd
  | k0 (s : Tx)
  | k1 (a c : Tx)
  | k2 (a c d : Tx)
  | k3 (a c : Tx)
  | k4 (a c : Tx)
  | k5 (a c : Tx)
def Kd.tx : Kd → Tx
  | .k0 s => s
  | .k1 a c => a ++ ([43, 100] ++ c)
  | .k2 a c d => a ++ ([43, 100] ++ (c ++ (110 :: d)))
  | .k3 a c => a ++ ([110, 110] ++ c)
  | .k4 a c => a ++ (110 :: c)
  | .k5 a c => a ++ (101 :: c)
def freeC (x : UInt8) : Bool := x != 43 && (x != 110 && x != 101)
def freeB (t : Tx) : Bool := t.all freeC
def Kd.ok : Kd → Bool
  | .k0 s => freeB s
  | .k1 a c => freeB a && freeB c
  | .k2 a c d => freeB a && (freeB c && freeB d)
  | .k3 a c => freeB a && freeB c
  | .k4 a c => freeB a && freeB c
  | .k5 a c => freeB a && freeB c
def Kd.at (p : Nat) : Kd → Bool
  | .k1 _ _ => Nat.ble 3 p
  | .k2 _ _ _ => Nat.ble 3 p && Nat.ble p 4
  | _ => Nat.ble p 4
def parseK (s : Tx) : Kd :=
  let a := s.takeWhile freeC
  match s.dropWhile freeC with
  | [] => .k0 a
  | 43 :: 100 :: r => match r.dropWhile freeC with
    | [] => .k1 a (r.takeWhile freeC)
    | _ :: d => .k2 a (r.takeWhile freeC) d
  | 110 :: 110 :: c => .k3 a c
  | 110 :: c => .k4 a c
  | _ :: c => .k5 a c
theorem kinds_all : (List.range 7).all (fun p => (List.range 256).all (fun n => (parseK (cPat (p : Int) n)).tx == cPat (p : Int) n && ((parseK (cPat (p : Int) n)).ok && (parseK (cPat (p : Int) n)).at p))) = true := by decide +kernel
theorem kind_of (p n : Nat) (hp : p < 7) (hn : n < 256) : ∃ k : Kd, k.tx = cPat (p : Int) n ∧ k.ok = true ∧ k.at p = true := by
  have h1 := List.all_eq_true.1 kinds_all p (List.mem_range.2 hp)
  have h2 := List.all_eq_true.1 h1 n (List.mem_range.2 hn)
  simp only [Bool.and_eq_true] at h2
  exact ⟨parseK (cPat (p : Int) n), eq_of_beq h2.1, h2.2.1, h2.2.2⟩
def dol (v : Nat) : Tx := [36] ++ hex2 v
def dol2 (a b : Nat) : Tx := [36] ++ (hex2 b ++ hex2 a)
def Kd.out (bs : List Nat) (nx : Nat) : Kd → Tx × Nat
  | .k0 s => (s, nx)
  | .k1 a c => (a ++ (sgn (bs.getD nx 0) ++ c), nx + 1)
  | .k2 a c d => ((a ++ (sgn (bs.getD nx 0) ++ c)) ++ (dol (bs.getD (nx + 1) 0) ++ d), nx + 2)
  | .k3 a c => (a ++ (dol2 (bs.getD nx 0) (bs.getD (nx + 1) 0) ++ c), nx + 2)
  | .k4 a c => (a ++ (dol (bs.getD nx 0) ++ c), nx + 1)
  | .k5 a c => (a ++ (sgn (bs.getD nx 0) ++ c), nx + 1)
end Go.Proofs.YtljjgakfnajifaaGreatDoor
set_option linter.unusedSimpArgs false
set_option linter.unusedVariables false
namespace Go.Proofs.YtljjgakfnajifaaGreatDoor
theorem free_of {t : Tx} (h : freeB t = true) : 43 ∉ t ∧ Cl t := by
  have h := List.all_eq_true.1 h
  refine ⟨fun hm => ?_, fun hm => ?_, fun hm => ?_⟩
  · exact absurd (h _ hm) (by decide)
  · exact absurd (h _ hm) (by decide)
  · exact absurd (h _ hm) (by decide)
instance (t : Tx) : Decidable (Cl t) := inferInstanceAs (Decidable (110 ∉ t ∧ 101 ∉ t))
theorem cl_dol (v : Nat) (hv : v < 256) : Cl (dol v) := Cl.append (by decide) (cl_hex v hv)
theorem cl_dol2 (a b : Nat) (ha : a < 256) (hb : b < 256) : Cl (dol2 a b) := Cl.append (by decide) (Cl.append (cl_hex b hb) (cl_hex a ha))
theorem fold4 (bs : List Nat) (st : Tx × Nat) : cFold bs st 4 = cStep bs [101] (cStep bs [110] (cStep bs [110, 110] (cStep bs [43, 100] st))) := rfl
theorem miss_d (bs : List Nat) (s : Tx) (nx : Nat) (h : 43 ∉ s) : cStep bs [43, 100] (s, nx) = (s, nx) := step_miss bs _ s nx (index_none 43 [100] s h)
theorem miss_nn (bs : List Nat) (s : Tx) (nx : Nat) (h : 110 ∉ s) : cStep bs [110, 110] (s, nx) = (s, nx) := step_miss bs _ s nx (index_none 110 [110] s h)
theorem miss_n (bs : List Nat) (s : Tx) (nx : Nat) (h : 110 ∉ s) : cStep bs [110] (s, nx) = (s, nx) := step_miss bs _ s nx (index_none 110 [] s h)
theorem miss_e (bs : List Nat) (s : Tx) (nx : Nat) (h : 101 ∉ s) : cStep bs [101] (s, nx) = (s, nx) := step_miss bs _ s nx (index_none 101 [] s h)
theorem not_app {x : UInt8} {a b : Tx} (ha : x ∉ a) (hb : x ∉ b) : x ∉ a ++ b := fun h => (List.mem_append.1 h).elim ha hb
theorem not_cons {x y : UInt8} {b : Tx} (ha : x ≠ y) (hb : x ∉ b) : x ∉ y :: b := fun h => (List.mem_cons.1 h).elim ha hb
theorem kd_code (bs : List Nat) (hb : ∀ i, bs.getD i 0 < 256) (nx : Nat) (k : Kd) (hk : k.ok = true) : cFold bs (k.tx, nx) 4 = k.out bs nx := by
  rw [fold4]
  cases k with
  | k0 s =>
    obtain ⟨h1, h2, h3⟩ := free_of hk
    show cStep bs [101] (cStep bs [110] (cStep bs [110, 110] (cStep bs [43, 100] (s, nx)))) = _
    rw [miss_d bs s nx h1, miss_nn bs s nx h2, miss_n bs s nx h2, miss_e bs s nx h3]; rfl
  | k1 a c =>
    rw [Kd.ok, Bool.and_eq_true] at hk
    obtain ⟨a1, a2, a3⟩ := free_of hk.1
    obtain ⟨c1, c2, c3⟩ := free_of hk.2
    obtain ⟨s2, s3⟩ := cl_sgn (bs.getD nx 0) (hb nx)
    show cStep bs [101] (cStep bs [110] (cStep bs [110, 110] (cStep bs [43, 100] (a ++ ([43, 100] ++ c), nx)))) = _
    rw [step_hit bs 43 [100] a c nx a1]
    show cStep bs [101] (cStep bs [110] (cStep bs [110, 110] (a ++ (sgn (bs.getD nx 0) ++ c), nx + 1))) = _
    have n2 : (110 : UInt8) ∉ a ++ (sgn (bs.getD nx 0) ++ c) := not_app a2 (not_app s2 c2)
    have n3 : (101 : UInt8) ∉ a ++ (sgn (bs.getD nx 0) ++ c) := not_app a3 (not_app s3 c3)
    rw [miss_nn bs _ _ n2, miss_n bs _ _ n2, miss_e bs _ _ n3]; rfl
  | k2 a c d =>
    rw [Kd.ok, Bool.and_eq_true, Bool.and_eq_true] at hk
    obtain ⟨a1, a2, a3⟩ := free_of hk.1
    obtain ⟨c1, c2, c3⟩ := free_of hk.2.1
    obtain ⟨d1, d2, d3⟩ := free_of hk.2.2
    obtain ⟨s2, s3⟩ := cl_sgn (bs.getD nx 0) (hb nx)
    obtain ⟨t2, t3⟩ := cl_dol (bs.getD (nx + 1) 0) (hb (nx + 1))
    show cStep bs [101] (cStep bs [110] (cStep bs [110, 110] (cStep bs [43, 100] (a ++ ([43, 100] ++ (c ++ (110 :: d))), nx)))) = _
    rw [step_hit bs 43 [100] a _ nx a1]
    have n2 : (110 : UInt8) ∉ a ++ (sgn (bs.getD nx 0) ++ c) := not_app a2 (not_app s2 c2)
    have n3 : (101 : UInt8) ∉ a ++ (sgn (bs.getD nx 0) ++ c) := not_app a3 (not_app s3 c3)
    have e : a ++ (cText [43, 100] (bs.getD nx 0) (bs.getD (nx + 1) 0) ++ (c ++ (110 :: d))) = (a ++ (sgn (bs.getD nx 0) ++ c)) ++ (110 :: d) := by
      show a ++ (sgn (bs.getD nx 0) ++ (c ++ (110 :: d))) = _
      simp only [List.append_assoc]
    rw [e]
    show cStep bs [101] (cStep bs [110] (cStep bs [110, 110] ((a ++ (sgn (bs.getD nx 0) ++ c)) ++ (110 :: d), nx + 1))) = _
    rw [step_miss bs [110, 110] _ _ (index_nn _ d n2 d2)]
    have h := step_hit bs 110 [] (a ++ (sgn (bs.getD nx 0) ++ c)) d (nx + 1) n2
    have e2 : (a ++ (sgn (bs.getD nx 0) ++ c)) ++ (([110] : Tx) ++ d) = (a ++ (sgn (bs.getD nx 0) ++ c)) ++ (110 :: d) := rfl
    rw [e2] at h
    rw [h]
    show cStep bs [101] ((a ++ (sgn (bs.getD nx 0) ++ c)) ++ (dol (bs.getD (nx + 1) 0) ++ d), nx + 1 + 1) = _
    rw [miss_e bs _ _ (not_app n3 (not_app t3 d3))]; rfl
  | k3 a c =>
    rw [Kd.ok, Bool.and_eq_true] at hk
    obtain ⟨a1, a2, a3⟩ := free_of hk.1
    obtain ⟨c1, c2, c3⟩ := free_of hk.2
    obtain ⟨t2, t3⟩ := cl_dol2 (bs.getD nx 0) (bs.getD (nx + 1) 0) (hb nx) (hb (nx + 1))
    show cStep bs [101] (cStep bs [110] (cStep bs [110, 110] (cStep bs [43, 100] (a ++ ([110, 110] ++ c), nx)))) = _
    have n1 : (43 : UInt8) ∉ a ++ ([110, 110] ++ c) := not_app a1 (not_app (by decide) c1)
    rw [miss_d bs _ _ n1, step_hit bs 110 [110] a c nx a2]
    show cStep bs [101] (cStep bs [110] (a ++ (dol2 (bs.getD nx 0) (bs.getD (nx + 1) 0) ++ c), nx + 2)) = _
    rw [miss_n bs _ _ (not_app a2 (not_app t2 c2)), miss_e bs _ _ (not_app a3 (not_app t3 c3))]; rfl
  | k4 a c =>
    rw [Kd.ok, Bool.and_eq_true] at hk
    obtain ⟨a1, a2, a3⟩ := free_of hk.1
    obtain ⟨c1, c2, c3⟩ := free_of hk.2
    obtain ⟨t2, t3⟩ := cl_dol (bs.getD nx 0) (hb nx)
    show cStep bs [101] (cStep bs [110] (cStep bs [110, 110] (cStep bs [43, 100] (a ++ (110 :: c), nx)))) = _
    rw [miss_d bs _ _ (not_app a1 (not_cons (by decide) c1)), step_miss bs [110, 110] _ _ (index_nn a c a2 c2)]
    have h := step_hit bs 110 [] a c nx a2
    have e2 : a ++ (([110] : Tx) ++ c) = a ++ (110 :: c) := rfl
    rw [e2] at h
    rw [h]
    show cStep bs [101] (a ++ (dol (bs.getD nx 0) ++ c), nx + 1) = _
    rw [miss_e bs _ _ (not_app a3 (not_app t3 c3))]; rfl
  | k5 a c =>
    rw [Kd.ok, Bool.and_eq_true] at hk
    obtain ⟨a1, a2, a3⟩ := free_of hk.1
    obtain ⟨c1, c2, c3⟩ := free_of hk.2
    show cStep bs [101] (cStep bs [110] (cStep bs [110, 110] (cStep bs [43, 100] (a ++ (101 :: c), nx)))) = _
    have n2 : (110 : UInt8) ∉ a ++ (101 :: c) := not_app a2 (not_cons (by decide) c2)
    rw [miss_d bs _ _ (not_app a1 (not_cons (by decide) c1)), miss_nn bs _ _ n2, miss_n bs _ _ n2]
    have h := step_hit bs 101 [] a c nx a3
    have e2 : a ++ (([101] : Tx) ++ c) = a ++ (101 :: c) := rfl
    rw [e2] at h
    rw [h]; rfl
theorem hasF (h : UInt8) (m' a : Tx) (ha : h ∉ a) {α : Type} (x y : α) : (if rHas a (h :: m') = true then x else y) = y := by rw [has_none h m' a ha, if_neg (by decide)]
theorem kd_ref (bs : List Nat) (hb : ∀ i, bs.getD i 0 < 256) (p : Nat) (nx B : Nat) (k : Kd) (hk : k.ok = true) (hp : k.at p = true) (hB : p ≤ 4 → B = nx) (h2 : 3 ≤ p → nx = 2) :
    rTail bs (p : Int) B k.tx = ((k.out bs nx).1, if p ≤ 4 then (k.out bs nx).2 else B) := by
  cases k with
  | k0 s =>
    obtain ⟨h1, h2, h3⟩ := free_of hk
    have hp : p ≤ 4 := Nat.le_of_ble_eq_true hp
    show rTail bs (p : Int) B s = _
    rw [rTail, hasF 43 [100] s h1, rEnd, hasF 110 [110] s h2, hasF 110 [] s h2, hasF 101 [] s h3, if_pos hp, hB hp]; rfl
  | k1 a c =>
    rw [Kd.ok, Bool.and_eq_true] at hk
    obtain ⟨a1, a2, a3⟩ := free_of hk.1
    obtain ⟨c1, c2, c3⟩ := free_of hk.2
    have hp : 3 ≤ p := Nat.le_of_ble_eq_true hp
    have e2 := h2 hp
    subst e2
    obtain ⟨s2, s3⟩ := cl_sgn (bs.getD 2 0) (hb 2)
    have n2 : (110 : UInt8) ∉ a ++ (sgn (bs.getD 2 0) ++ c) := not_app a2 (not_app s2 c2)
    have n3 : (101 : UInt8) ∉ a ++ (sgn (bs.getD 2 0) ++ c) := not_app a3 (not_app s3 c3)
    show rTail bs (p : Int) B (a ++ ([43, 100] ++ c)) = _
    rw [rTail, has_one 43 [100] a c a1 c1, if_pos rfl, repl_one 43 [100] _ a c a1 c1, rEnd, hasF 110 [110] _ n2, hasF 110 [] _ n2, hasF 101 [] _ n3]
    by_cases h4 : p ≤ 4
    · rw [if_pos (by omega), if_pos h4, hB h4]; rfl
    · rw [if_neg (by omega), if_neg h4]; rfl
  | k2 a c d =>
    rw [Kd.ok, Bool.and_eq_true, Bool.and_eq_true] at hk
    obtain ⟨a1, a2, a3⟩ := free_of hk.1
    obtain ⟨c1, c2, c3⟩ := free_of hk.2.1
    obtain ⟨d1, d2, d3⟩ := free_of hk.2.2
    rw [Kd.at, Bool.and_eq_true] at hp
    have hp3 : 3 ≤ p := Nat.le_of_ble_eq_true hp.1
    have hp4 : p ≤ 4 := Nat.le_of_ble_eq_true hp.2
    have e2 := h2 hp3
    subst e2
    obtain ⟨s2, s3⟩ := cl_sgn (bs.getD 2 0) (hb 2)
    have n2 : (110 : UInt8) ∉ a ++ (sgn (bs.getD 2 0) ++ c) := not_app a2 (not_app s2 c2)
    have m1 : (43 : UInt8) ∉ c ++ (110 :: d) := not_app c1 (not_cons (by decide) d1)
    show rTail bs (p : Int) B (a ++ ([43, 100] ++ (c ++ (110 :: d)))) = _
    have e : a ++ (sgn (bs.getD 2 0) ++ (c ++ (110 :: d))) = (a ++ (sgn (bs.getD 2 0) ++ c)) ++ (110 :: d) := by simp only [List.append_assoc]
    rw [rTail, has_one 43 [100] a _ a1 m1, if_pos rfl, repl_one 43 [100] _ a _ a1 m1, e, if_pos (by omega), rEnd, has_nn _ d n2 d2, if_neg (by decide), hB hp4, if_pos hp4]
    have h1 := has_one 110 [] (a ++ (sgn (bs.getD 2 0) ++ c)) d n2 d2
    have h3 := repl_one 110 [] ([36] ++ hex2 (bs.getD (2 + 1) 0)) (a ++ (sgn (bs.getD 2 0) ++ c)) d n2 d2
    have e2 : (a ++ (sgn (bs.getD 2 0) ++ c)) ++ (([110] : Tx) ++ d) = (a ++ (sgn (bs.getD 2 0) ++ c)) ++ (110 :: d) := rfl
    rw [e2] at h1 h3
    rw [h1, if_pos rfl, h3]; rfl
  | k3 a c =>
    rw [Kd.ok, Bool.and_eq_true] at hk
    obtain ⟨a1, a2, a3⟩ := free_of hk.1
    obtain ⟨c1, c2, c3⟩ := free_of hk.2
    have hp : p ≤ 4 := Nat.le_of_ble_eq_true hp
    show rTail bs (p : Int) B (a ++ ([110, 110] ++ c)) = _
    have n1 : (43 : UInt8) ∉ a ++ ([110, 110] ++ c) := not_app a1 (not_app (by decide) c1)
    rw [rTail, hasF 43 [100] _ n1, rEnd, has_one 110 [110] a c a2 c2, if_pos rfl, repl_one 110 [110] _ a c a2 c2, if_pos hp, hB hp]; rfl
  | k4 a c =>
    rw [Kd.ok, Bool.and_eq_true] at hk
    obtain ⟨a1, a2, a3⟩ := free_of hk.1
    obtain ⟨c1, c2, c3⟩ := free_of hk.2
    have hp : p ≤ 4 := Nat.le_of_ble_eq_true hp
    show rTail bs (p : Int) B (a ++ (110 :: c)) = _
    rw [rTail, hasF 43 [100] _ (not_app a1 (not_cons (by decide) c1)), rEnd, has_nn a c a2 c2, if_neg (by decide), hB hp, if_pos hp]
    have h1 := has_one 110 [] a c a2 c2
    have h3 := repl_one 110 [] ([36] ++ hex2 (bs.getD nx 0)) a c a2 c2
    have e2 : a ++ (([110] : Tx) ++ c) = a ++ (110 :: c) := rfl
    rw [e2] at h1 h3
    rw [h1, if_pos rfl, h3]; rfl
  | k5 a c =>
    rw [Kd.ok, Bool.and_eq_true] at hk
    obtain ⟨a1, a2, a3⟩ := free_of hk.1
    obtain ⟨c1, c2, c3⟩ := free_of hk.2
    have hp : p ≤ 4 := Nat.le_of_ble_eq_true hp
    have n2 : (110 : UInt8) ∉ a ++ (101 :: c) := not_app a2 (not_cons (by decide) c2)
    show rTail bs (p : Int) B (a ++ (101 :: c)) = _
    rw [rTail, hasF 43 [100] _ (not_app a1 (not_cons (by decide) c1)), rEnd, hasF 110 [110] _ n2, hasF 110 [] _ n2, hB hp, if_pos hp]
    have h1 := has_one 101 [] a c a3 c3
    have h3 := repl_one 101 [] (sgn (bs.getD nx 0)) a c a3 c3
    have e2 : a ++ (([101] : Tx) ++ c) = a ++ (101 :: c) := rfl
    rw [e2] at h1 h3
    rw [h1, if_pos rfl, h3]; rfl
end Go.Proofs.YtljjgakfnajifaaGreatDoor
set_option linter.unusedSimpArgs false
set_option linter.unusedVariables false
namespace Go.Proofs.YtljjgakfnajifaaGreatDoor
theorem max_eq (a b : Nat) (h : b ≤ a) : max a b = a := Nat.max_eq_left h
theorem out_low (bs : List Nat) (nx : Nat) (k : Kd) : nx ≤ (k.out bs nx).2 ∧ (k.out bs nx).2 ≤ nx + 2 := by
  cases k <;> (show nx ≤ _ ∧ _ ≤ nx + 2) <;> (first | exact ⟨Nat.le_refl _, Nat.le_add_right _ _⟩ | exact ⟨Nat.le_add_right _ _, Nat.le_refl _⟩ | exact ⟨Nat.le_add_right _ _, Nat.add_le_add_left (by decide) _⟩)
def spotName (bs : List Nat) (p O R : Nat) : Tx × Nat := ((cFold bs (cPat (p : Int) (bs.getD O 0), R) 4).1, max (cFold bs (cPat (p : Int) (bs.getD O 0), R) 4).2 (O + 1))
theorem cName_spot (bs : List Nat) : cName bs = spotName bs (cFind (bs.getD 0 0) (bs.getD 1 0)).1 (cFind (bs.getD 0 0) (bs.getD 1 0)).2.1 (cFind (bs.getD 0 0) (bs.getD 1 0)).2.2 := rfl
def SpotOk (p O R : Nat) : Prop := (p = 0 ∧ O = 0 ∧ R = 1) ∨ (1 ≤ p ∧ p ≤ 4 ∧ O = 1 ∧ R = 2) ∨ (5 ≤ p ∧ p ≤ 6 ∧ O = 3 ∧ R = 2)
theorem spot_ref (bs : List Nat) (hb : ∀ i, bs.getD i 0 < 256) (p O R : Nat) (h : SpotOk p O R) : spotName bs p O R = rTail bs (p : Int) (O + 1) (rPat (p : Int) (bs.getD O 0)) := by
  have hp : p < 7 := by rcases h with h | h | h <;> omega
  obtain ⟨k, hk1, hk2, hk3⟩ := kind_of p (bs.getD O 0) hp (hb O)
  rw [← pat_eq _ _ (hb O), spotName, ← hk1, kd_code bs hb R k hk2, kd_ref bs hb p R (O + 1) k hk2 hk3 (by rcases h with h | h | h <;> omega) (by rcases h with h | h | h <;> omega)]
  have hl := out_low bs R k
  by_cases h4 : p ≤ 4
  · rw [if_pos h4, max_eq _ _ (by rcases h with h | h | h <;> omega)]
  · rw [if_neg h4]
    have h5 : (k.out bs R).2 ≤ O + 1 := by rcases h with h | h | h <;> omega
    rw [Nat.max_eq_right h5]
theorem spot_len (bs : List Nat) (hb : ∀ i, bs.getD i 0 < 256) (p O R : Nat) (h : SpotOk p O R) : 1 ≤ (spotName bs p O R).2 ∧ (spotName bs p O R).2 ≤ 4 ∧ O + 1 ≤ (spotName bs p O R).2 := by
  have hp : p < 7 := by rcases h with h | h | h <;> omega
  obtain ⟨k, hk1, hk2, hk3⟩ := kind_of p (bs.getD O 0) hp (hb O)
  rw [spotName, ← hk1, kd_code bs hb R k hk2]
  have hl := out_low bs R k
  rcases h with h | h | h <;> omega
theorem kd_same (bs cs : List Nat) (nx : Nat) (k : Kd) (h : ∀ i < (k.out bs nx).2, cs.getD i 0 = bs.getD i 0) : k.out cs nx = k.out bs nx := by
  cases k with
  | k0 s => rfl
  | k1 a c => rw [Kd.out, Kd.out, h nx (by show nx < nx + 1; omega)]
  | k2 a c d => rw [Kd.out, Kd.out, h nx (by show nx < nx + 2; omega), h (nx + 1) (by show nx + 1 < nx + 2; omega)]
  | k3 a c => rw [Kd.out, Kd.out, h nx (by show nx < nx + 2; omega), h (nx + 1) (by show nx + 1 < nx + 2; omega)]
  | k4 a c => rw [Kd.out, Kd.out, h nx (by show nx < nx + 1; omega)]
  | k5 a c => rw [Kd.out, Kd.out, h nx (by show nx < nx + 1; omega)]
theorem spot_same (bs cs : List Nat) (hb : ∀ i, bs.getD i 0 < 256) (hc : ∀ i, cs.getD i 0 < 256) (p O R : Nat) (h : SpotOk p O R) (hs : ∀ i < (spotName bs p O R).2, cs.getD i 0 = bs.getD i 0) : spotName cs p O R = spotName bs p O R := by
  have hp : p < 7 := by rcases h with h | h | h <;> omega
  obtain ⟨k, hk1, hk2, hk3⟩ := kind_of p (bs.getD O 0) hp (hb O)
  have hl := spot_len bs hb p O R h
  have e0 : cs.getD O 0 = bs.getD O 0 := hs O (by omega)
  rw [spotName, ← hk1, kd_code bs hb R k hk2] at hs
  rw [spotName, spotName, e0, ← hk1, kd_code bs hb R k hk2, kd_code cs hc R k hk2, kd_same bs cs R k (fun i hi => hs i (by show i < max _ _; omega))]
theorem find_ok (a d : Nat) : SpotOk (cFind a d).1 (cFind a d).2.1 (cFind a d).2.2 := by
  have hb : ∀ p q, 1 ≤ p → p ≤ 4 → 5 ≤ q → q ≤ 6 → SpotOk (cBehind d p q).1 (cBehind d p q).2.1 (cBehind d p q).2.2 := by
    intro p q h1 h2 h3 h4
    unfold cBehind
    split
    · exact .inl ⟨rfl, rfl, rfl⟩
    · split
      · exact .inr (.inr ⟨h3, h4, rfl, rfl⟩)
      · exact .inr (.inl ⟨h1, h2, rfl, rfl⟩)
  unfold cFind
  split
  · exact .inr (.inl (by decide))
  · split
    · exact .inr (.inl (by decide))
    · split
      · exact hb 3 5 (by decide) (by decide) (by decide) (by decide)
      · split
        · exact hb 4 6 (by decide) (by decide) (by decide) (by decide)
        · exact .inl ⟨rfl, rfl, rfl⟩
def Lone (a d : Nat) : Prop := (a = 221 ∨ a = 253) ∧ (d = 221 ∨ d = 237 ∨ d = 253)
theorem find_lone (a d : Nat) (h : Lone a d) : cFind a d = (0, 0, 1) ∧ (rPage a d).1 = -1 := by
  obtain ⟨h1, h2⟩ := h
  rcases h1 with rfl | rfl
  · refine ⟨?_, ?_⟩
    · show cBehind d 3 5 = _; rw [cBehind, if_pos h2]
    · show (rBehind d 3).1 = _; rw [rBehind, if_pos h2]
  · refine ⟨?_, ?_⟩
    · show cBehind d 4 6 = _; rw [cBehind, if_pos h2]
    · show (rBehind d 4).1 = _; rw [rBehind, if_pos h2]
theorem find_page (a d : Nat) (h : ¬ Lone a d) : (rPage a d).1 = ((cFind a d).1 : Int) ∧ (rPage a d).2 = (cFind a d).2.1 := by
  have hb : (a = 221 ∨ a = 253) → ∀ p q : Nat, q = p + 2 → (rBehind d (p : Int)).1 = ((cBehind d p q).1 : Int) ∧ (rBehind d (p : Int)).2 = (cBehind d p q).2.1 := by
    intro ha p q hq
    have h2 : ¬ (d = 221 ∨ d = 237 ∨ d = 253) := fun hd => h ⟨ha, hd⟩
    rw [rBehind, cBehind, if_neg h2, if_neg h2]
    split
    · exact ⟨by subst hq; show (p : Int) + 2 = ((p + 2 : Nat) : Int); omega, rfl⟩
    · exact ⟨rfl, rfl⟩
  unfold rPage cFind
  split
  · exact ⟨rfl, rfl⟩
  · split
    · exact ⟨rfl, rfl⟩
    · split
      · rename_i h3; exact hb (.inl h3) 3 5 rfl
      · split
        · rename_i h4; exact hb (.inr h4) 4 6 rfl
        · exact ⟨rfl, rfl⟩
instance (a d : Nat) : Decidable (Lone a d) := inferInstanceAs (Decidable ((a = 221 ∨ a = 253) ∧ (d = 221 ∨ d = 237 ∨ d = 253)))
theorem lone_name (bs : List Nat) (h : Lone (bs.getD 0 0) (bs.getD 1 0)) : cName bs = (rPlain (bs.getD 0 0), 1) := by
  rw [cName_spot, (find_lone _ _ h).1]
  have hc : ∀ a, a = 221 ∨ a = 253 → cPat 0 a = rPlain a ∧ 43 ∉ rPlain a ∧ 110 ∉ rPlain a ∧ 101 ∉ rPlain a := by
    intro a ha
    rcases ha with rfl | rfl <;> decide +kernel
  obtain ⟨h0, h1, h2, h3⟩ := hc _ h.1
  have e : cFold bs (cPat ((0 : Nat) : Int) (bs.getD 0 0), 1) 4 = (rPlain (bs.getD 0 0), 1) := by
    have h0' : cPat ((0 : Nat) : Int) (bs.getD 0 0) = rPlain (bs.getD 0 0) := h0
    rw [h0', fold4, miss_d bs _ _ h1, miss_nn bs _ _ h2, miss_n bs _ _ h2, miss_e bs _ _ h3]
  show spotName bs 0 0 1 = _
  rw [spotName, e]; rfl
theorem name_same (bs : List Nat) (hb : ∀ i, bs.getD i 0 < 256) : cName bs = rName bs := by
  by_cases h : Lone (bs.getD 0 0) (bs.getD 1 0)
  · rw [lone_name bs h, rName, (find_lone _ _ h).2, if_pos (by decide)]
  · obtain ⟨h1, h2⟩ := find_page _ _ h
    rw [cName_spot, spot_ref bs hb _ _ _ (find_ok _ _), rName, h1, h2, if_neg (by omega)]
theorem name_len (bs : List Nat) (hb : ∀ i, bs.getD i 0 < 256) : 1 ≤ (cName bs).2 ∧ (cName bs).2 ≤ 4 := by
  have h := spot_len bs hb _ _ _ (find_ok (bs.getD 0 0) (bs.getD 1 0))
  exact ⟨h.1, h.2.1⟩
theorem name_at_all (bs cs : List Nat) (h : ∀ i, cs.getD i 0 = bs.getD i 0) : cName cs = cName bs := by
  have hf : ∀ st k, cFold cs st k = cFold bs st k := by
    intro st k
    induction k with
    | zero => rfl
    | succ k ih => rw [cFold, cFold, ih, cStep, cStep, h, h]
  rw [cName_spot, cName_spot, spotName, spotName, h 0, h 1, h, hf]
theorem name_ends (bs cs : List Nat) (hb : ∀ i, bs.getD i 0 < 256) (hc : ∀ i, cs.getD i 0 < 256) (h : ∀ i < (cName bs).2, cs.getD i 0 = bs.getD i 0) :
    ((cName bs).2 = 1 ∧ (bs.getD 0 0 = 221 ∨ bs.getD 0 0 = 253)) ∨ cName cs = cName bs := by
  have hl := name_len bs hb
  have e0 : cs.getD 0 0 = bs.getD 0 0 := h 0 (by omega)
  by_cases ha : bs.getD 0 0 = 221 ∨ bs.getD 0 0 = 253
  · by_cases hd : Lone (bs.getD 0 0) (bs.getD 1 0)
    · exact .inl ⟨by rw [lone_name bs hd], ha⟩
    · right
      have hO : 1 ≤ (cFind (bs.getD 0 0) (bs.getD 1 0)).2.1 := by
        have h2 : ¬ (bs.getD 1 0 = 221 ∨ bs.getD 1 0 = 237 ∨ bs.getD 1 0 = 253) := fun hx => hd ⟨ha, hx⟩
        have hB : ∀ p q, 1 ≤ (cBehind (bs.getD 1 0) p q).2.1 := by
          intro p q
          rw [cBehind, if_neg h2]
          split
          · exact (by decide : 1 ≤ 3)
          · exact Nat.le_refl 1
        rcases ha with ha | ha <;> rw [ha]
        · exact hB 3 5
        · exact hB 4 6
      have hs := spot_len bs hb _ _ _ (find_ok (bs.getD 0 0) (bs.getD 1 0))
      have e1 : cs.getD 1 0 = bs.getD 1 0 := h 1 (by rw [cName_spot]; omega)
      rw [cName_spot cs, e0, e1]
      exact spot_same bs cs hb hc _ _ _ (find_ok _ _) h
  · right
    have hf : ∀ d, cFind (bs.getD 0 0) d = cFind (bs.getD 0 0) (bs.getD 1 0) := by
      intro d
      unfold cFind
      split
      · rfl
      · split
        · rfl
        · rw [if_neg (fun hx => ha (.inl hx)), if_neg (fun hx => ha (.inr hx)), if_neg (fun hx => ha (.inl hx)), if_neg (fun hx => ha (.inr hx))]
    rw [cName_spot cs, e0, hf (cs.getD 1 0)]
    exact spot_same bs cs hb hc _ _ _ (find_ok _ _) h
end Go.Proofs.YtljjgakfnajifaaGreatDoor
