import Derived.Test.YtljjgakfnajifaaGreatDoorZCpuMv1
import Derived.Test.YtljjgakfnajifaaGreatDoorZNdOne
import Derived.Test.YtljjgakfnajifaaGreatDoorZCpuAw
import Derived.Test.YtljjgakfnajifaaGreatDoorZRegRight
set_option linter.unusedSimpArgs false
set_option linter.unusedVariables false
namespace Go.Proofs.YtljjgakfnajifaaGreatDoor
open Go.RowKit
theorem parse_ok (p n : Nat) (hp : p < 7) (hn : n < 256) : (parseK (cPat (p : Int) n)).tx = cPat (p : Int) n ∧ (parseK (cPat (p : Int) n)).ok = true := by
  have h1 := List.all_eq_true.1 kinds_all p (List.mem_range.2 hp)
  have h2 := List.all_eq_true.1 h1 n (List.mem_range.2 hn)
  simp only [Bool.and_eq_true] at h2
  exact ⟨eq_of_beq h2.1, h2.2.1⟩
theorem name_spot (bs : List Nat) (hb : ∀ i, bs.getD i 0 < 256) (p O R : Nat) (hp : p < 7) (hf : cFind (bs.getD 0 0) (bs.getD 1 0) = (p, O, R)) (k : Kd) (hk : parseK (cPat (p : Int) (bs.getD O 0)) = k) :
    (rName bs).1 = (k.out bs R).1 ∧ (rName bs).2 = max (R + k.more) (O + 1) := by
  obtain ⟨h1, h2⟩ := parse_ok p (bs.getD O 0) hp (hb O)
  rw [hk] at h1 h2
  have e : rName bs = ((k.out bs R).1, max (k.out bs R).2 (O + 1)) := by
    rw [← name_same bs hb, cName_spot, hf]
    show spotName bs p O R = _
    rw [spotName, ← h1, kd_code bs hb R k h2]
  rw [e]
  exact ⟨rfl, by show max (k.out bs R).2 (O + 1) = _; rw [out_more]⟩
theorem not_ex (bs : List Nat) (k : Kd) (R : Nat) (t : Tx) (ht : t = (k.out bs R).1) (hno : ∀ m ∈ mvS, rHas t m = false) : mvEx k = false := by
  cases h : mvEx k with
  | false => rfl
  | true =>
    obtain ⟨m, hm, hp⟩ := List.any_eq_true.1 (ex_has k bs R h)
    rw [← ht, hno m hm] at hp
    cases hp
def tk (v : Nat) : Nat := v / 128 * 128 + (v % 128 + 1) % 128
theorem plain_told (p d o : Nat) (hp : (p, d) = (0, 0) ∨ (p, d) = (3, 1) ∨ (p, d) = (4, 1)) (ho : o < 256) (hn : mvPre o = false) (k : Kd) (hk : parseK (cPat (p : Int) o) = k) (hx : mvEx k = false) :
    mvJ (o / 64) (o / 8 % 8) (o % 8) = false ∧ k.more = mvN d (o / 64) (o / 8 % 8) (o % 8) := by
  have hm : (p, d) ∈ ([(0, 0), (3, 1), (4, 1)] : List (Nat × Nat)) := by rcases hp with h | h | h <;> rw [h] <;> simp
  have h1 := List.all_eq_true.1 (List.all_eq_true.1 mv_plain (p, d) hm) o (List.mem_range.2 ho)
  simp only [hk, hn, hx, Bool.false_or, Bool.and_eq_true, Bool.not_eq_true', Nat.beq_eq] at h1
  exact h1
theorem rare_told (o : Nat) (ho : o < 256) (k : Kd) (hk : parseK (cPat 2 o) = k) (hx : mvEx k = false) : mvJ2 (o / 64) (o / 8 % 8) (o % 8) = false ∧ k.more = mvN2 (o / 64) (o % 8) := by
  have h1 := List.all_eq_true.1 mv_rare o (List.mem_range.2 ho)
  simp only [hk, hx, Bool.false_or, Bool.and_eq_true, Bool.not_eq_true', Nat.beq_eq] at h1
  exact h1
theorem mvPre_no (o : Nat) (h : o ≠ 221 ∧ o ≠ 253 ∧ o ≠ 237 ∧ o ≠ 203) : mvPre o = false := by
  have hb : ∀ n, o ≠ n → Nat.beq o n = false := fun n hn => by rw [← Bool.not_eq_true, Nat.beq_eq]; exact hn
  unfold mvPre
  rw [hb _ h.1, hb _ h.2.1, hb _ h.2.2.1, hb _ h.2.2.2]; rfl
def LaidAt (m : Nat → Nat) (pc : Nat) (ys : List Nat) : Prop := ∀ i < 4, m ((pc + i) % 65536) = ys.getD i 0
theorem laid_lay (f pc : Nat) (ys : List Nat) (hpc : pc < 65536) (h4 : 4 ≤ ys.length) (h20 : ys.length ≤ 20) : LaidAt (lay (bas f) pc ys) pc ys := by
  intro i hi
  rw [lay_at _ _ _ _ hpc (Nat.mod_lt _ (by decide)) (by omega), show ((pc + i) % 65536 + 65536 - pc) % 65536 = i by omega, if_pos (by omega)]
theorem MoveEnds.aux (s : Cs) (hp : s.r.pc < 65536) : s.fetched.r.pc = up1 s.r.pc ∧ s.fetched.r.r = tk s.r.r ∧ s.fetched.px = s.r.px ∧ s.fetched.u.m = s.u.m ∧ s.fetched.r.pc < 65536 := ⟨rfl, rfl, rfl, rfl, up1_lt _⟩
theorem mstep_plain (r : Rg) (u : U) (p d o : Nat) (hpc : r.pc < 65536) (hh : r.ht = false) (hp : (p, d) = (0, 0) ∨ (p, d) = (3, 1) ∨ (p, d) = (4, 1)) (hd : mvD r.px = d) (hm : u.m r.pc = o) (ho : o < 256) (h : o ≠ 221 ∧ o ≠ 253 ∧ o ≠ 237 ∧ o ≠ 203)
    (k : Kd) (hk : parseK (cPat (p : Int) o) = k) (hx : mvEx k = false) : (stepR r u).pc = (r.pc + (1 + k.more)) % 65536 ∧ (stepR r u).r = tk r.r ∧ 4 ≤ stepN r u := by
  obtain ⟨j1, j2⟩ := plain_told p d o hp ho (mvPre_no o h) k hk hx
  obtain ⟨e1, e2⟩ := Cs.step_eq ⟨r, 0, u⟩ o hm hh
  obtain ⟨e3, e4⟩ := Cs.do_plain (Cs.fetched ⟨r, 0, u⟩) o h
  obtain ⟨f1, f2, f3, f4, f5⟩ := MoveEnds.aux ⟨r, 0, u⟩ hpc
  obtain ⟨⟨g1, g2⟩, g3⟩ := Cs.plain_goes (Cs.fetched ⟨r, 0, u⟩) (o / 64) (o / 8 % 8) (o % 8) f5 j1 (by omega) (Nat.mod_lt _ (by decide)) (Nat.mod_lt _ (by decide))
  rw [show (Cs.fetched ⟨r, 0, u⟩).px = r.px from rfl, hd, ← j2] at g1
  unfold stepR stepN
  rw [e1, e2, e3, e4]
  refine ⟨?_, ?_, ?_⟩
  · show ((Cs.fetched ⟨r, 0, u⟩).plain (o / 64) (o / 8 % 8) (o % 8)).r.pc = _
    rw [g1, f1]
    show (up1 r.pc + k.more) % 65536 = _
    unfold up1; omega
  · exact g2.trans f2
  · exact g3
theorem mstep_rare (r : Rg) (u : U) (o : Nat) (hpc : r.pc < 65536) (hh : r.ht = false) (hm : u.m r.pc = 237) (hm1 : u.m (up1 r.pc) = o) (ho : o < 256)
    (k : Kd) (hk : parseK (cPat 2 o) = k) (hx : mvEx k = false) : (stepR r u).pc = (r.pc + (2 + k.more)) % 65536 ∧ (stepR r u).r = tk (tk r.r) ∧ 8 ≤ stepN r u := by
  obtain ⟨j1, j2⟩ := rare_told o ho k hk hx
  obtain ⟨e1, e2⟩ := Cs.step_eq ⟨r, 0, u⟩ 237 hm hh
  obtain ⟨e3, e4⟩ := Cs.do_rare (Cs.fetched ⟨r, 0, u⟩)
  have e5 : (Cs.fetched ⟨r, 0, u⟩).nextV = o := hm1
  rw [e5] at e3 e4
  have f5 : (((Cs.fetched ⟨r, 0, u⟩).ahead 0).fetch).r.pc < 65536 := up1_lt _
  obtain ⟨⟨g1, g2⟩, g3⟩ := Cs.rare_goes (((Cs.fetched ⟨r, 0, u⟩).ahead 0).fetch) (o / 64) (o / 8 % 8) (o % 8) f5 j1 (by omega) (Nat.mod_lt _ (by decide)) (Nat.mod_lt _ (by decide))
  rw [← j2] at g1
  unfold stepR stepN
  rw [e1, e2, e3, e4]
  refine ⟨?_, ?_, ?_⟩
  · refine g1.trans ?_
    show (up1 (up1 r.pc) + k.more) % 65536 = _
    unfold up1; omega
  · exact g2
  · exact g3
theorem mstep_bits (r : Rg) (u : U) (hpc : r.pc < 65536) (hh : r.ht = false) (hpx : r.px = 0) (hm : u.m r.pc = 203) : (stepR r u).pc = (r.pc + 2) % 65536 ∧ (stepR r u).r = tk (tk r.r) ∧ 8 ≤ stepN r u := by
  obtain ⟨e1, e2⟩ := Cs.step_eq ⟨r, 0, u⟩ 203 hm hh
  have e3 : (Cs.fetched ⟨r, 0, u⟩).perform 203 = (Cs.fetched ⟨r, 0, u⟩).onBits := rfl
  have e4 : (Cs.fetched ⟨r, 0, u⟩).performC 203 = (Cs.fetched ⟨r, 0, u⟩).onBitsC := rfl
  have hpx' : (Cs.fetched ⟨r, 0, u⟩).px = 0 := hpx
  have f5 : ((Cs.fetched ⟨r, 0, u⟩).fetch).r.pc < 65536 := up1_lt _
  unfold stepR stepN
  rw [e1, e2, e3, e4]
  unfold Cs.onBits Cs.onBitsC
  rw [if_pos hpx', if_pos hpx']
  have fin : ∀ t : Cs, Goes ((Cs.fetched ⟨r, 0, u⟩).fetch) t 0 → t.r.pc = (r.pc + 2) % 65536 ∧ t.r.r = tk (tk r.r) := by
    intro t ⟨g1, g2⟩
    refine ⟨g1.trans ?_, g2⟩
    show (up1 (up1 r.pc) + 0) % 65536 = _
    unfold up1; omega
  by_cases hz : Cs.zOf (Cs.fetched ⟨r, 0, u⟩).nextV = 6
  · rw [if_pos hz, if_pos hz]
    refine ⟨(fin _ (Cs.bitsAt_goes _ f5 _ _ _ _)).1, (fin _ (Cs.bitsAt_goes _ f5 _ _ _ _)).2, ?_⟩
    unfold Cs.bitsC; split <;> decide
  · rw [if_neg hz, if_neg hz]
    exact ⟨(fin _ (Cs.bitsReg_goes _ f5 _ _ _)).1, (fin _ (Cs.bitsReg_goes _ f5 _ _ _)).2, by decide⟩
theorem mstep_bitsAt (r : Rg) (u : U) (hpc : r.pc < 65536) (hh : r.ht = false) (hpx : ¬ r.px = 0) (hm : u.m r.pc = 203) : (stepR r u).pc = (r.pc + 3) % 65536 ∧ (stepR r u).r = tk r.r ∧ 4 ≤ stepN r u := by
  obtain ⟨e1, e2⟩ := Cs.step_eq ⟨r, 0, u⟩ 203 hm hh
  have e3 : (Cs.fetched ⟨r, 0, u⟩).perform 203 = (Cs.fetched ⟨r, 0, u⟩).onBits := rfl
  have e4 : (Cs.fetched ⟨r, 0, u⟩).performC 203 = (Cs.fetched ⟨r, 0, u⟩).onBitsC := rfl
  have hpx' : ¬ (Cs.fetched ⟨r, 0, u⟩).px = 0 := hpx
  have e5 : (Cs.fetched ⟨r, 0, u⟩).point = (Cs.fetched ⟨r, 0, u⟩).next.setWZ (wMove ((Cs.fetched ⟨r, 0, u⟩).pair 2) (Cs.fetched ⟨r, 0, u⟩).nextV) := if_neg hpx'
  unfold stepR stepN
  rw [e1, e2, e3, e4]
  unfold Cs.onBits Cs.onBitsC
  rw [if_neg hpx', if_neg hpx', e5]
  have f5 : (((Cs.fetched ⟨r, 0, u⟩).next.setWZ (wMove ((Cs.fetched ⟨r, 0, u⟩).pair 2) (Cs.fetched ⟨r, 0, u⟩).nextV)).next).r.pc < 65536 := up1_lt _
  obtain ⟨g1, g2⟩ := Cs.bitsAt_goes _ f5 (Cs.xOf ((Cs.fetched ⟨r, 0, u⟩).next.setWZ (wMove ((Cs.fetched ⟨r, 0, u⟩).pair 2) (Cs.fetched ⟨r, 0, u⟩).nextV)).nextV) (Cs.yOf ((Cs.fetched ⟨r, 0, u⟩).next.setWZ (wMove ((Cs.fetched ⟨r, 0, u⟩).pair 2) (Cs.fetched ⟨r, 0, u⟩).nextV)).nextV) (Cs.zOf ((Cs.fetched ⟨r, 0, u⟩).next.setWZ (wMove ((Cs.fetched ⟨r, 0, u⟩).pair 2) (Cs.fetched ⟨r, 0, u⟩).nextV)).nextV) (Cs.fetched ⟨r, 0, u⟩).pointV
  refine ⟨g1.trans ?_, g2, ?_⟩
  · show (up1 (up1 (up1 r.pc)) + 0) % 65536 = _
    unfold up1; omega
  · unfold Cs.bitsC; split <;> decide
theorem mstep_pre (r : Rg) (u : U) (o : Nat) (ho : o = 221 ∨ o = 253) (hh : r.ht = false) (hm : u.m r.pc = o) :
    (stepR r u).pc = up1 r.pc ∧ (stepR r u).r = tk r.r ∧ (stepR r u).px = o ∧ (stepR r u).ht = false ∧ (stepU r u).m = u.m ∧ stepN r u = 4 := by
  obtain ⟨e1, e2⟩ := Cs.step_eq ⟨r, 0, u⟩ o hm hh
  obtain ⟨e3, e4⟩ := Cs.do_prefix (Cs.fetched ⟨r, 0, u⟩) o ho
  unfold stepR stepN stepU
  rw [e1, e2, e3, e4]
  exact ⟨rfl, rfl, rfl, hh, rfl, rfl⟩
structure Ends (r : Rg) (ln fe : Nat) (r' : Rg) (cl : Nat) : Prop where
  pc : r'.pc = (r.pc + ln) % 65536
  r : (fe = 1 ∧ r'.r = tk r.r) ∨ (fe = 2 ∧ r'.r = tk (tk r.r))
  cl : 4 * fe ≤ cl
theorem mv_near (r : Rg) (u : U) (ys : List Nat) (hr : r.Fits) (hpx : r.px = 0) (hh : r.ht = false) (hb : ∀ i, ys.getD i 0 < 256) (hl : LaidAt u.m r.pc ys) (hno : ∀ m ∈ mvS, rHas (rName ys).1 m = false)
    (h0 : ys.getD 0 0 ≠ 221 ∧ ys.getD 0 0 ≠ 253) : Ends r (rName ys).2 (if ys.getD 0 0 = 203 ∨ ys.getD 0 0 = 237 then 2 else 1) (stepR r u) (stepN r u) := by
  have hpc := hr.pc
  have m0 : u.m r.pc = ys.getD 0 0 := by have := hl 0 (by decide); rwa [show (r.pc + 0) % 65536 = r.pc by omega] at this
  have m1 : u.m (up1 r.pc) = ys.getD 1 0 := hl 1 (by decide)
  obtain ⟨o, ho⟩ : ∃ o, ys.getD 0 0 = o := ⟨_, rfl⟩
  obtain ⟨o1, ho1⟩ : ∃ o, ys.getD 1 0 = o := ⟨_, rfl⟩
  have o8 : o < 256 := ho ▸ hb 0
  have o18 : o1 < 256 := ho1 ▸ hb 1
  rw [ho] at m0 h0 ⊢
  rw [ho1] at m1
  by_cases c1 : o = 203
  · obtain ⟨n1, n2⟩ := name_spot ys hb 1 1 2 (by decide) (by rw [ho]; unfold cFind; rw [if_pos c1]) _ rfl
    rw [ho1] at n2
    have hz := Nat.eq_of_beq_eq_true (List.all_eq_true.1 mv_bits o1 (List.mem_range.2 o18))
    rw [show ((1 : Nat) : Int) = 1 from rfl, hz] at n2
    obtain ⟨g1, g2, g3⟩ := mstep_bits r u hpc hh hpx (m0.trans c1)
    rw [if_pos (.inl c1), n2]
    exact ⟨g1, .inr ⟨rfl, g2⟩, g3⟩
  · by_cases c2 : o = 237
    · obtain ⟨n1, n2⟩ := name_spot ys hb 2 1 2 (by decide) (by rw [ho]; unfold cFind; rw [if_neg c1, if_pos c2]) _ rfl
      obtain ⟨g1, g2, g3⟩ := mstep_rare r u o1 hpc hh (m0.trans c2) m1 o18 _ rfl (not_ex ys _ 2 _ (by rw [n1, ho1]; rfl) hno)
      rw [ho1] at n2
      rw [if_pos (.inr c2), n2]
      refine ⟨?_, .inr ⟨rfl, g2⟩, g3⟩
      rw [g1, show max (2 + (parseK (cPat ((2 : Nat) : Int) o1)).more) (1 + 1) = 2 + (parseK (cPat ((2 : Nat) : Int) o1)).more from Nat.max_eq_left (by omega)]
      rfl
    · obtain ⟨n1, n2⟩ := name_spot ys hb 0 0 1 (by decide) (by rw [ho]; unfold cFind; rw [if_neg c1, if_neg c2, if_neg h0.1, if_neg h0.2]) _ rfl
      rw [ho] at n1 n2
      obtain ⟨g1, g2, g3⟩ := mstep_plain r u 0 0 o hpc hh (.inl rfl) (by rw [hpx]; rfl) m0 o8 ⟨h0.1, h0.2, c2, c1⟩ _ rfl (not_ex ys _ 1 _ n1 hno)
      rw [if_neg (by omega), n2]
      refine ⟨?_, .inl ⟨rfl, g2⟩, g3⟩
      rw [g1, show max (1 + (parseK (cPat ((0 : Nat) : Int) o)).more) (0 + 1) = 1 + (parseK (cPat ((0 : Nat) : Int) o)).more from Nat.max_eq_left (by omega)]
theorem mv_far (r : Rg) (u : U) (ys : List Nat) (hr : r.Fits) (hpx : r.px = 0) (hh : r.ht = false) (hb : ∀ i, ys.getD i 0 < 256) (hl : LaidAt u.m r.pc ys) (hno : ∀ m ∈ mvS, rHas (rName ys).1 m = false)
    (h0 : ys.getD 0 0 = 221 ∨ ys.getD 0 0 = 253) : Ends r (rName ys).2 2 (stepR (stepR r u) (stepU r u)) (stepN r u + stepN (stepR r u) (stepU r u)) := by
  have hpc := hr.pc
  have m0 : u.m r.pc = ys.getD 0 0 := by have := hl 0 (by decide); rwa [show (r.pc + 0) % 65536 = r.pc by omega] at this
  have m1 : u.m (up1 r.pc) = ys.getD 1 0 := hl 1 (by decide)
  obtain ⟨o, ho⟩ : ∃ o, ys.getD 0 0 = o := ⟨_, rfl⟩
  obtain ⟨o1, ho1⟩ : ∃ o, ys.getD 1 0 = o := ⟨_, rfl⟩
  have o8 : o < 256 := ho ▸ hb 0
  have o18 : o1 < 256 := ho1 ▸ hb 1
  have o38 := hb 3
  rw [ho] at m0 h0
  rw [ho1] at m1
  obtain ⟨q1, q2, q3, q4, q5, q6⟩ := mstep_pre r u o h0 hh m0
  obtain ⟨r1, e1⟩ : ∃ r1, stepR r u = r1 := ⟨_, rfl⟩
  obtain ⟨u1, e2⟩ : ∃ u1, stepU r u = u1 := ⟨_, rfl⟩
  rw [e1] at q1 q2 q3 q4
  rw [e2] at q5
  rw [e1, e2, q6]
  have px1 : ¬ r1.px = 0 := by rw [q3]; omega
  have pc1 : r1.pc < 65536 := by rw [q1]; exact up1_lt _
  have m1' : u1.m r1.pc = o1 := by rw [q5, q1, m1]
  obtain ⟨p, hp⟩ : ∃ p, p = 3 ∧ o = 221 ∨ p = 4 ∧ o = 253 := by rcases h0 with h | h; exact ⟨3, .inl ⟨rfl, h⟩⟩; exact ⟨4, .inr ⟨rfl, h⟩⟩
  have hfind : cFind o o1 = cBehind o1 p (p + 2) := by
    unfold cFind
    rcases hp with ⟨rfl, rfl⟩ | ⟨rfl, rfl⟩ <;> rfl
  by_cases c1 : o1 = 221 ∨ o1 = 237 ∨ o1 = 253
  · exfalso
    have hl1 := lone_name ys (by rw [ho, ho1]; exact ⟨h0, c1⟩)
    rw [name_same ys hb] at hl1
    have e : (rName ys).1 = rPlain o := by rw [hl1, ho]
    rcases h0 with h | h
    · have := hno [68, 68] (by decide)
      rw [e, h] at this
      exact absurd this (by decide +kernel)
    · have := hno [70, 68] (by decide)
      rw [e, h] at this
      exact absurd this (by decide +kernel)
  · by_cases c2 : o1 = 203
    · have p7 : p + 2 < 7 := by omega
      obtain ⟨n1, n2⟩ := name_spot ys hb (p + 2) 3 2 p7 (by rw [ho, ho1, hfind]; unfold cBehind; rw [if_neg c1, if_pos c2]) _ rfl
      have hm : p + 2 ∈ ([5, 6] : List Nat) := by rcases hp with ⟨rfl, -⟩ | ⟨rfl, -⟩ <;> decide
      have hz := Nat.eq_of_beq_eq_true (List.all_eq_true.1 (List.all_eq_true.1 mv_bitsAt (p + 2) hm) (ys.getD 3 0) (List.mem_range.2 o38))
      rw [hz] at n2
      obtain ⟨g1, g2, g3⟩ := mstep_bitsAt r1 u1 pc1 q4 px1 (m1'.trans c2)
      rw [n2]
      refine ⟨?_, .inr ⟨rfl, ?_⟩, ?_⟩
      · rw [g1, q1]
        show (up1 r.pc + 3) % 65536 = (r.pc + 4) % 65536
        unfold up1; omega
      · rw [g2, q2]
      · show 8 ≤ 4 + stepN r1 u1; omega
    · obtain ⟨n1, n2⟩ := name_spot ys hb p 1 2 (by omega) (by rw [ho, ho1, hfind]; unfold cBehind; rw [if_neg c1, if_neg c2]) _ rfl
      rw [ho1] at n1 n2
      have hpd : (p, 1) = (0, 0) ∨ (p, 1) = (3, 1) ∨ (p, 1) = (4, 1) := by
        rcases hp with ⟨rfl, -⟩ | ⟨rfl, -⟩
        · exact .inr (.inl rfl)
        · exact .inr (.inr rfl)
      obtain ⟨g1, g2, g3⟩ := mstep_plain r1 u1 p 1 o1 pc1 q4 hpd (by unfold mvD; rw [if_neg px1]) m1' o18 ⟨by omega, by omega, by omega, c2⟩ _ rfl (not_ex ys _ 2 _ n1 hno)
      rw [n2]
      refine ⟨?_, .inr ⟨rfl, ?_⟩, ?_⟩
      · rw [g1, q1, show max (2 + (parseK (cPat (p : Int) o1)).more) (1 + 1) = 2 + (parseK (cPat (p : Int) o1)).more from Nat.max_eq_left (by omega)]
        unfold up1; omega
      · rw [g2, q2]
      · show 8 ≤ 4 + stepN r1 u1; omega
theorem tk_lt (v : Nat) (h : v < 256) : tk v < 256 := by unfold tk; omega
theorem tk_one (v : Nat) (h : v < 256) : (tk v + 256 - v) % 256 % 128 = 1 ∧ tk v / 128 = v / 128 := by unfold tk; omega
theorem tk_two (v : Nat) (h : v < 256) : (tk (tk v) + 256 - v) % 256 % 128 = 2 ∧ tk (tk v) / 128 = v / 128 := by unfold tk; omega
end Go.Proofs.YtljjgakfnajifaaGreatDoor
