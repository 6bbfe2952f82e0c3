/-
  The kinds of patterns, and what both ways make of each. Nothing here speaks of the program.
-/
import Derived.Test.YtaiceidmcelapaaDoorNamMath
import Derived.Test.YtaiceidmcelapaaDoorNamRef8
set_option linter.unusedSimpArgs false
set_option linter.unusedVariables false
namespace Go.Proofs.YtaiceidmcelapaaDoor

inductive Kd
  | k0 (s : Tx)
  | k1 (a c : Tx)
  | k2 (a c d : Tx)
  | k3 (a c : Tx)
  | k4 (a c : Tx)
  | k5 (a c : Tx)
def Kd.tx : Kd → Tx
  | .k0 s => s
  | .k1 a c => a ++ ([43, 100] ++ c)
  | .k2 a c d => a ++ ([43, 100] ++ (c ++ (110 :: d)))
  | .k3 a c => a ++ ([110, 110] ++ c)
  | .k4 a c => a ++ (110 :: c)
  | .k5 a c => a ++ (101 :: c)
def freeC (x : UInt8) : Bool := x != 43 && (x != 110 && x != 101)
def freeB (t : Tx) : Bool := t.all freeC
def Kd.ok : Kd → Bool
  | .k0 s => freeB s
  | .k1 a c => freeB a && freeB c
  | .k2 a c d => freeB a && (freeB c && freeB d)
  | .k3 a c => freeB a && freeB c
  | .k4 a c => freeB a && freeB c
  | .k5 a c => freeB a && freeB c
/-- which kinds a page has -/
def Kd.at (p : Nat) : Kd → Bool
  | .k1 _ _ => Nat.ble 3 p
  | .k2 _ _ _ => Nat.ble 3 p && Nat.ble p 4
  | _ => Nat.ble p 4
def parseK (s : Tx) : Kd :=
  let a := s.takeWhile freeC
  match s.dropWhile freeC with
  | [] => .k0 a
  | 43 :: 100 :: r => match r.dropWhile freeC with
    | [] => .k1 a (r.takeWhile freeC)
    | _ :: d => .k2 a (r.takeWhile freeC) d
  | 110 :: 110 :: c => .k3 a c
  | 110 :: c => .k4 a c
  | _ :: c => .k5 a c
theorem kinds_all : (List.range 7).all (fun p => (List.range 256).all (fun n => (parseK (cPat (p : Int) n)).tx == cPat (p : Int) n && ((parseK (cPat (p : Int) n)).ok && (parseK (cPat (p : Int) n)).at p))) = true := by decide +kernel
theorem kind_of (p n : Nat) (hp : p < 7) (hn : n < 256) : ∃ k : Kd, k.tx = cPat (p : Int) n ∧ k.ok = true ∧ k.at p = true := by
  have h1 := List.all_eq_true.1 kinds_all p (List.mem_range.2 hp)
  have h2 := List.all_eq_true.1 h1 n (List.mem_range.2 hn)
  simp only [Bool.and_eq_true] at h2
  exact ⟨parseK (cPat (p : Int) n), eq_of_beq h2.1, h2.2.1, h2.2.2⟩
theorem free_of {t : Tx} (h : freeB t = true) : 43 ∉ t ∧ Cl t := by
  have h := List.all_eq_true.1 h
  refine ⟨fun hm => ?_, fun hm => ?_, fun hm => ?_⟩
  · exact absurd (h _ hm) (by decide)
  · exact absurd (h _ hm) (by decide)
  · exact absurd (h _ hm) (by decide)
def dol (v : Nat) : Tx := [36] ++ hex2 v
def dol2 (a b : Nat) : Tx := [36] ++ (hex2 b ++ hex2 a)
/-- what becomes of a pattern; nx: where what comes behind the op begins -/
def Kd.out (bs : List Nat) (nx : Nat) : Kd → Tx × Nat
  | .k0 s => (s, nx)
  | .k1 a c => (a ++ (sgn (bs.getD nx 0) ++ c), nx + 1)
  | .k2 a c d => ((a ++ (sgn (bs.getD nx 0) ++ c)) ++ (dol (bs.getD (nx + 1) 0) ++ d), nx + 2)
  | .k3 a c => (a ++ (dol2 (bs.getD nx 0) (bs.getD (nx + 1) 0) ++ c), nx + 2)
  | .k4 a c => (a ++ (dol (bs.getD nx 0) ++ c), nx + 1)
  | .k5 a c => (a ++ (sgn (bs.getD nx 0) ++ c), nx + 1)
instance (t : Tx) : Decidable (Cl t) := inferInstanceAs (Decidable (110 ∉ t ∧ 101 ∉ t))
theorem cl_dol (v : Nat) (hv : v < 256) : Cl (dol v) := Cl.append (by decide) (cl_hex v hv)
theorem cl_dol2 (a b : Nat) (ha : a < 256) (hb : b < 256) : Cl (dol2 a b) := Cl.append (by decide) (Cl.append (cl_hex b hb) (cl_hex a ha))
theorem fold4 (bs : List Nat) (st : Tx × Nat) : cFold bs st 4 = cStep bs [101] (cStep bs [110] (cStep bs [110, 110] (cStep bs [43, 100] st))) := rfl
theorem miss_d (bs : List Nat) (s : Tx) (nx : Nat) (h : 43 ∉ s) : cStep bs [43, 100] (s, nx) = (s, nx) := step_miss bs _ s nx (index_none 43 [100] s h)
theorem miss_nn (bs : List Nat) (s : Tx) (nx : Nat) (h : 110 ∉ s) : cStep bs [110, 110] (s, nx) = (s, nx) := step_miss bs _ s nx (index_none 110 [110] s h)
theorem miss_n (bs : List Nat) (s : Tx) (nx : Nat) (h : 110 ∉ s) : cStep bs [110] (s, nx) = (s, nx) := step_miss bs _ s nx (index_none 110 [] s h)
theorem miss_e (bs : List Nat) (s : Tx) (nx : Nat) (h : 101 ∉ s) : cStep bs [101] (s, nx) = (s, nx) := step_miss bs _ s nx (index_none 101 [] s h)
theorem not_app {x : UInt8} {a b : Tx} (ha : x ∉ a) (hb : x ∉ b) : x ∉ a ++ b := fun h => (List.mem_append.1 h).elim ha hb
theorem not_cons {x y : UInt8} {b : Tx} (ha : x ≠ y) (hb : x ∉ b) : x ∉ y :: b := fun h => (List.mem_cons.1 h).elim ha hb
theorem kd_code (bs : List Nat) (hb : ∀ i, bs.getD i 0 < 256) (nx : Nat) (k : Kd) (hk : k.ok = true) : cFold bs (k.tx, nx) 4 = k.out bs nx := by
  rw [fold4]
  cases k with
  | k0 s =>
    obtain ⟨h1, h2, h3⟩ := free_of hk
    show cStep bs [101] (cStep bs [110] (cStep bs [110, 110] (cStep bs [43, 100] (s, nx)))) = _
    rw [miss_d bs s nx h1, miss_nn bs s nx h2, miss_n bs s nx h2, miss_e bs s nx h3]; rfl
  | k1 a c =>
    rw [Kd.ok, Bool.and_eq_true] at hk
    obtain ⟨a1, a2, a3⟩ := free_of hk.1
    obtain ⟨c1, c2, c3⟩ := free_of hk.2
    obtain ⟨s2, s3⟩ := cl_sgn (bs.getD nx 0) (hb nx)
    show cStep bs [101] (cStep bs [110] (cStep bs [110, 110] (cStep bs [43, 100] (a ++ ([43, 100] ++ c), nx)))) = _
    rw [step_hit bs 43 [100] a c nx a1]
    show cStep bs [101] (cStep bs [110] (cStep bs [110, 110] (a ++ (sgn (bs.getD nx 0) ++ c), nx + 1))) = _
    have n2 : (110 : UInt8) ∉ a ++ (sgn (bs.getD nx 0) ++ c) := not_app a2 (not_app s2 c2)
    have n3 : (101 : UInt8) ∉ a ++ (sgn (bs.getD nx 0) ++ c) := not_app a3 (not_app s3 c3)
    rw [miss_nn bs _ _ n2, miss_n bs _ _ n2, miss_e bs _ _ n3]; rfl
  | k2 a c d =>
    rw [Kd.ok, Bool.and_eq_true, Bool.and_eq_true] at hk
    obtain ⟨a1, a2, a3⟩ := free_of hk.1
    obtain ⟨c1, c2, c3⟩ := free_of hk.2.1
    obtain ⟨d1, d2, d3⟩ := free_of hk.2.2
    obtain ⟨s2, s3⟩ := cl_sgn (bs.getD nx 0) (hb nx)
    obtain ⟨t2, t3⟩ := cl_dol (bs.getD (nx + 1) 0) (hb (nx + 1))
    show cStep bs [101] (cStep bs [110] (cStep bs [110, 110] (cStep bs [43, 100] (a ++ ([43, 100] ++ (c ++ (110 :: d))), nx)))) = _
    rw [step_hit bs 43 [100] a _ nx a1]
    have n2 : (110 : UInt8) ∉ a ++ (sgn (bs.getD nx 0) ++ c) := not_app a2 (not_app s2 c2)
    have n3 : (101 : UInt8) ∉ a ++ (sgn (bs.getD nx 0) ++ c) := not_app a3 (not_app s3 c3)
    have e : a ++ (cText [43, 100] (bs.getD nx 0) (bs.getD (nx + 1) 0) ++ (c ++ (110 :: d))) = (a ++ (sgn (bs.getD nx 0) ++ c)) ++ (110 :: d) := by
      show a ++ (sgn (bs.getD nx 0) ++ (c ++ (110 :: d))) = _
      simp only [List.append_assoc]
    rw [e]
    show cStep bs [101] (cStep bs [110] (cStep bs [110, 110] ((a ++ (sgn (bs.getD nx 0) ++ c)) ++ (110 :: d), nx + 1))) = _
    rw [step_miss bs [110, 110] _ _ (index_nn _ d n2 d2)]
    have h := step_hit bs 110 [] (a ++ (sgn (bs.getD nx 0) ++ c)) d (nx + 1) n2
    have e2 : (a ++ (sgn (bs.getD nx 0) ++ c)) ++ (([110] : Tx) ++ d) = (a ++ (sgn (bs.getD nx 0) ++ c)) ++ (110 :: d) := rfl
    rw [e2] at h
    rw [h]
    show cStep bs [101] ((a ++ (sgn (bs.getD nx 0) ++ c)) ++ (dol (bs.getD (nx + 1) 0) ++ d), nx + 1 + 1) = _
    rw [miss_e bs _ _ (not_app n3 (not_app t3 d3))]; rfl
  | k3 a c =>
    rw [Kd.ok, Bool.and_eq_true] at hk
    obtain ⟨a1, a2, a3⟩ := free_of hk.1
    obtain ⟨c1, c2, c3⟩ := free_of hk.2
    obtain ⟨t2, t3⟩ := cl_dol2 (bs.getD nx 0) (bs.getD (nx + 1) 0) (hb nx) (hb (nx + 1))
    show cStep bs [101] (cStep bs [110] (cStep bs [110, 110] (cStep bs [43, 100] (a ++ ([110, 110] ++ c), nx)))) = _
    have n1 : (43 : UInt8) ∉ a ++ ([110, 110] ++ c) := not_app a1 (not_app (by decide) c1)
    rw [miss_d bs _ _ n1, step_hit bs 110 [110] a c nx a2]
    show cStep bs [101] (cStep bs [110] (a ++ (dol2 (bs.getD nx 0) (bs.getD (nx + 1) 0) ++ c), nx + 2)) = _
    rw [miss_n bs _ _ (not_app a2 (not_app t2 c2)), miss_e bs _ _ (not_app a3 (not_app t3 c3))]; rfl
  | k4 a c =>
    rw [Kd.ok, Bool.and_eq_true] at hk
    obtain ⟨a1, a2, a3⟩ := free_of hk.1
    obtain ⟨c1, c2, c3⟩ := free_of hk.2
    obtain ⟨t2, t3⟩ := cl_dol (bs.getD nx 0) (hb nx)
    show cStep bs [101] (cStep bs [110] (cStep bs [110, 110] (cStep bs [43, 100] (a ++ (110 :: c), nx)))) = _
    rw [miss_d bs _ _ (not_app a1 (not_cons (by decide) c1)), step_miss bs [110, 110] _ _ (index_nn a c a2 c2)]
    have h := step_hit bs 110 [] a c nx a2
    have e2 : a ++ (([110] : Tx) ++ c) = a ++ (110 :: c) := rfl
    rw [e2] at h
    rw [h]
    show cStep bs [101] (a ++ (dol (bs.getD nx 0) ++ c), nx + 1) = _
    rw [miss_e bs _ _ (not_app a3 (not_app t3 c3))]; rfl
  | k5 a c =>
    rw [Kd.ok, Bool.and_eq_true] at hk
    obtain ⟨a1, a2, a3⟩ := free_of hk.1
    obtain ⟨c1, c2, c3⟩ := free_of hk.2
    show cStep bs [101] (cStep bs [110] (cStep bs [110, 110] (cStep bs [43, 100] (a ++ (101 :: c), nx)))) = _
    have n2 : (110 : UInt8) ∉ a ++ (101 :: c) := not_app a2 (not_cons (by decide) c2)
    rw [miss_d bs _ _ (not_app a1 (not_cons (by decide) c1)), miss_nn bs _ _ n2, miss_n bs _ _ n2]
    have h := step_hit bs 101 [] a c nx a3
    have e2 : a ++ (([101] : Tx) ++ c) = a ++ (101 :: c) := rfl
    rw [e2] at h
    rw [h]; rfl
theorem hasF (h : UInt8) (m' a : Tx) (ha : h ∉ a) {α : Type} (x y : α) : (if rHas a (h :: m') = true then x else y) = y := by rw [has_none h m' a ha, if_neg (by decide)]
/-- the document's: B: behind the op -/
theorem kd_ref (bs : List Nat) (hb : ∀ i, bs.getD i 0 < 256) (p : Nat) (nx B : Nat) (k : Kd) (hk : k.ok = true) (hp : k.at p = true) (hB : p ≤ 4 → B = nx) (h2 : 3 ≤ p → nx = 2) :
    rTail bs (p : Int) B k.tx = ((k.out bs nx).1, if p ≤ 4 then (k.out bs nx).2 else B) := by
  cases k with
  | k0 s =>
    obtain ⟨h1, h2, h3⟩ := free_of hk
    have hp : p ≤ 4 := Nat.le_of_ble_eq_true hp
    show rTail bs (p : Int) B s = _
    rw [rTail, hasF 43 [100] s h1, rEnd, hasF 110 [110] s h2, hasF 110 [] s h2, hasF 101 [] s h3, if_pos hp, hB hp]; rfl
  | k1 a c =>
    rw [Kd.ok, Bool.and_eq_true] at hk
    obtain ⟨a1, a2, a3⟩ := free_of hk.1
    obtain ⟨c1, c2, c3⟩ := free_of hk.2
    have hp : 3 ≤ p := Nat.le_of_ble_eq_true hp
    have e2 := h2 hp
    subst e2
    obtain ⟨s2, s3⟩ := cl_sgn (bs.getD 2 0) (hb 2)
    have n2 : (110 : UInt8) ∉ a ++ (sgn (bs.getD 2 0) ++ c) := not_app a2 (not_app s2 c2)
    have n3 : (101 : UInt8) ∉ a ++ (sgn (bs.getD 2 0) ++ c) := not_app a3 (not_app s3 c3)
    show rTail bs (p : Int) B (a ++ ([43, 100] ++ c)) = _
    rw [rTail, has_one 43 [100] a c a1 c1, if_pos rfl, repl_one 43 [100] _ a c a1 c1, rEnd, hasF 110 [110] _ n2, hasF 110 [] _ n2, hasF 101 [] _ n3]
    by_cases h4 : p ≤ 4
    · rw [if_pos (by omega), if_pos h4, hB h4]; rfl
    · rw [if_neg (by omega), if_neg h4]; rfl
  | k2 a c d =>
    rw [Kd.ok, Bool.and_eq_true, Bool.and_eq_true] at hk
    obtain ⟨a1, a2, a3⟩ := free_of hk.1
    obtain ⟨c1, c2, c3⟩ := free_of hk.2.1
    obtain ⟨d1, d2, d3⟩ := free_of hk.2.2
    rw [Kd.at, Bool.and_eq_true] at hp
    have hp3 : 3 ≤ p := Nat.le_of_ble_eq_true hp.1
    have hp4 : p ≤ 4 := Nat.le_of_ble_eq_true hp.2
    have e2 := h2 hp3
    subst e2
    obtain ⟨s2, s3⟩ := cl_sgn (bs.getD 2 0) (hb 2)
    have n2 : (110 : UInt8) ∉ a ++ (sgn (bs.getD 2 0) ++ c) := not_app a2 (not_app s2 c2)
    have m1 : (43 : UInt8) ∉ c ++ (110 :: d) := not_app c1 (not_cons (by decide) d1)
    show rTail bs (p : Int) B (a ++ ([43, 100] ++ (c ++ (110 :: d)))) = _
    have e : a ++ (sgn (bs.getD 2 0) ++ (c ++ (110 :: d))) = (a ++ (sgn (bs.getD 2 0) ++ c)) ++ (110 :: d) := by simp only [List.append_assoc]
    rw [rTail, has_one 43 [100] a _ a1 m1, if_pos rfl, repl_one 43 [100] _ a _ a1 m1, e, if_pos (by omega), rEnd, has_nn _ d n2 d2, if_neg (by decide), hB hp4, if_pos hp4]
    have h1 := has_one 110 [] (a ++ (sgn (bs.getD 2 0) ++ c)) d n2 d2
    have h3 := repl_one 110 [] ([36] ++ hex2 (bs.getD (2 + 1) 0)) (a ++ (sgn (bs.getD 2 0) ++ c)) d n2 d2
    have e2 : (a ++ (sgn (bs.getD 2 0) ++ c)) ++ (([110] : Tx) ++ d) = (a ++ (sgn (bs.getD 2 0) ++ c)) ++ (110 :: d) := rfl
    rw [e2] at h1 h3
    rw [h1, if_pos rfl, h3]; rfl
  | k3 a c =>
    rw [Kd.ok, Bool.and_eq_true] at hk
    obtain ⟨a1, a2, a3⟩ := free_of hk.1
    obtain ⟨c1, c2, c3⟩ := free_of hk.2
    have hp : p ≤ 4 := Nat.le_of_ble_eq_true hp
    show rTail bs (p : Int) B (a ++ ([110, 110] ++ c)) = _
    have n1 : (43 : UInt8) ∉ a ++ ([110, 110] ++ c) := not_app a1 (not_app (by decide) c1)
    rw [rTail, hasF 43 [100] _ n1, rEnd, has_one 110 [110] a c a2 c2, if_pos rfl, repl_one 110 [110] _ a c a2 c2, if_pos hp, hB hp]; rfl
  | k4 a c =>
    rw [Kd.ok, Bool.and_eq_true] at hk
    obtain ⟨a1, a2, a3⟩ := free_of hk.1
    obtain ⟨c1, c2, c3⟩ := free_of hk.2
    have hp : p ≤ 4 := Nat.le_of_ble_eq_true hp
    show rTail bs (p : Int) B (a ++ (110 :: c)) = _
    rw [rTail, hasF 43 [100] _ (not_app a1 (not_cons (by decide) c1)), rEnd, has_nn a c a2 c2, if_neg (by decide), hB hp, if_pos hp]
    have h1 := has_one 110 [] a c a2 c2
    have h3 := repl_one 110 [] ([36] ++ hex2 (bs.getD nx 0)) a c a2 c2
    have e2 : a ++ (([110] : Tx) ++ c) = a ++ (110 :: c) := rfl
    rw [e2] at h1 h3
    rw [h1, if_pos rfl, h3]; rfl
  | k5 a c =>
    rw [Kd.ok, Bool.and_eq_true] at hk
    obtain ⟨a1, a2, a3⟩ := free_of hk.1
    obtain ⟨c1, c2, c3⟩ := free_of hk.2
    have hp : p ≤ 4 := Nat.le_of_ble_eq_true hp
    have n2 : (110 : UInt8) ∉ a ++ (101 :: c) := not_app a2 (not_cons (by decide) c2)
    show rTail bs (p : Int) B (a ++ (101 :: c)) = _
    rw [rTail, hasF 43 [100] _ (not_app a1 (not_cons (by decide) c1)), rEnd, hasF 110 [110] _ n2, hasF 110 [] _ n2, hB hp, if_pos hp]
    have h1 := has_one 101 [] a c a3 c3
    have h3 := repl_one 101 [] (sgn (bs.getD nx 0)) a c a3 c3
    have e2 : a ++ (([101] : Tx) ++ c) = a ++ (101 :: c) := rfl
    rw [e2] at h1 h3
    rw [h1, if_pos rfl, h3]; rfl

end Go.Proofs.YtaiceidmcelapaaDoor
