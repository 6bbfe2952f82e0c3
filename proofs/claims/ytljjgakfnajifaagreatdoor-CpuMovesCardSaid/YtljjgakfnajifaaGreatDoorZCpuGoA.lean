import Derived.Test.YtljjgakfnajifaaGreatDoorZBase
namespace Go.Proofs.YtljjgakfnajifaaGreatDoor
open Go.RowKit
def stepR (r : Rg) (u : U) : Rg := (Cs.step ⟨r, 0, u⟩).r
def stepU (r : Rg) (u : U) : U := (Cs.step ⟨r, 0, u⟩).u
def stepN (r : Rg) (u : U) : Nat := Cs.stepC ⟨r, 0, u⟩
-- prefixes
def pfxB (many : Nat) (last : Bool) (v i : Nat) : Nat :=
  if i = many + 1 then v else if i = many then 46 else if i + 1 = many then cond last 253 221 else if i % 3 = 1 then 253 else 221
def pfxR (many : Nat) (last : Bool) (v k : Nat) : Rg :=
  ⟨0, 0, 0, 0, 0, 0, 0, 0, 0, 0, 0, 0, 0, 0, 0, 0, 4369, 8738, 0, k, 0, 0, k % 128, 0, if k = 0 then 0 else pfxB many last v (k - 1), true, false, false, false⟩
theorem pfxB_pre (many : Nat) (last : Bool) (v i : Nat) (h : i < many) : pfxB many last v i = 221 ∨ pfxB many last v i = 253 := by
  unfold pfxB
  rw [if_neg (by omega), if_neg (by omega)]
  split
  · cases last
    · exact .inl rfl
    · exact .inr rfl
  · split
    · exact .inr rfl
    · exact .inl rfl
theorem pfx_step (many : Nat) (last : Bool) (v k : Nat) (u : U) (hk : k < many) (hn : many ≤ 100) (hm : u.m k = pfxB many last v k) :
    stepR (pfxR many last v k) u = pfxR many last v (k + 1) ∧ stepN (pfxR many last v k) u = 4 ∧ (stepU (pfxR many last v k) u).m = u.m := by
  obtain ⟨e1, e2⟩ := Cs.step_eq ⟨pfxR many last v k, 0, u⟩ _ hm rfl
  obtain ⟨e3, e4⟩ := Cs.do_prefix (Cs.fetched ⟨pfxR many last v k, 0, u⟩) _ (pfxB_pre many last v k hk)
  unfold stepR stepN stepU
  rw [e1, e2, e3, e4]
  refine ⟨?_, rfl, rfl⟩
  have e5 : up1 k = k + 1 := by unfold up1; omega
  have e6 : k % 128 / 128 * 128 + (k % 128 % 128 + 1) % 128 = (k + 1) % 128 := by omega
  show Rg.mk 0 0 0 0 0 0 0 0 0 0 0 0 0 0 0 0 4369 8738 0 (up1 k) 0 0 (k % 128 / 128 * 128 + (k % 128 % 128 + 1) % 128) 0 (pfxB many last v k) true false false false = _
  rw [e5, e6]
  unfold pfxR
  rw [if_neg (Nat.succ_ne_zero k), Nat.add_sub_cancel]
theorem pfx_last (many : Nat) (last : Bool) (v : Nat) (u : U) (h1 : 1 ≤ many) (hn : many ≤ 100) (hm : u.m many = 46) (hm1 : u.m (many + 1) = v) :
    stepN (pfxR many last v many) u = 7 ∧ (stepR (pfxR many last v many) u).ix = cond last 4369 (4352 + v) ∧ (stepR (pfxR many last v many) u).iy = cond last (8704 + v) 8738 ∧ (stepR (pfxR many last v many) u).pc = many + 2 := by
  obtain ⟨e1, e2⟩ := Cs.step_eq ⟨pfxR many last v many, 0, u⟩ _ hm rfl
  obtain ⟨e3, e4⟩ := Cs.do_plain (Cs.fetched ⟨pfxR many last v many, 0, u⟩) 46 (by decide)
  have e5 : up1 many = many + 1 := by unfold up1; omega
  have e6 : up1 (up1 many) = many + 2 := by unfold up1; omega
  have e7 : (Cs.fetched ⟨pfxR many last v many, 0, u⟩).nextV = v := by show u.m (up1 many) = v; rw [e5, hm1]
  have e8 : (pfxR many last v many).px = cond last 253 221 := by
    show (if many = 0 then 0 else pfxB many last v (many - 1)) = _
    rw [if_neg (by omega)]
    unfold pfxB
    rw [if_neg (by omega), if_neg (by omega), if_pos (by omega)]
  unfold stepN stepR
  rw [e1, e2, e3, e4]
  have e9 : (Cs.fetched ⟨pfxR many last v many, 0, u⟩).plain (Cs.xOf 46) (Cs.yOf 46) (Cs.zOf 46) = (Cs.fetched ⟨pfxR many last v many, 0, u⟩).next.setOne 5 (Cs.fetched ⟨pfxR many last v many, 0, u⟩).nextV := rfl
  rw [e9, e7]
  refine ⟨rfl, ?_⟩
  unfold Cs.setOne
  have e10 : (Cs.fetched ⟨pfxR many last v many, 0, u⟩).next.px = cond last 253 221 := e8
  rw [e10]
  cases last
  · exact ⟨(show 4369 / 256 * 256 + v = 4352 + v by omega), rfl, e6⟩
  · exact ⟨rfl, (show 8738 / 256 * 256 + v = 8704 + v by omega), e6⟩
-- a loop that counts
def cntN (n : Nat) : Nat := if n = 0 then 256 else n
def CntAt (A n t clk : Nat) (r : Rg) : Prop :=
  r.px = 0 ∧
  ((r.ht = false ∧ ∃ j, j < cntN n ∧ ((t = 2 * j ∧ clk = 17 * j ∧ r.pc = 0 ∧ r.a = (A + j) % 256 ∧ r.b = (cntN n - j) % 256) ∨ (t = 2 * j + 1 ∧ clk = 17 * j + 4 ∧ r.pc = 1 ∧ r.a = (A + j + 1) % 256 ∧ r.b = (cntN n - j) % 256)))
  ∨ (r.ht = false ∧ t = 2 * cntN n ∧ clk = 17 * cntN n - 5 ∧ r.pc = 3 ∧ r.a = (A + cntN n) % 256 ∧ r.b = 0)
  ∨ (r.ht = true ∧ t = 2 * cntN n + 1 ∧ clk = 17 * cntN n - 5 + 4 ∧ r.pc = 4 ∧ r.a = (A + cntN n) % 256 ∧ r.b = 0))
theorem cntN_pos (n : Nat) (hn : n < 256) : 1 ≤ cntN n ∧ cntN n ≤ 256 ∧ cntN n % 256 = n := by unfold cntN; split <;> omega
theorem cnt_step (A n t clk : Nat) (hn : n < 256) (r : Rg) (u : U) (h : CntAt A n t clk r) (hh : r.ht = false) (h0 : u.m 0 = 60) (h1 : u.m 1 = 16) (h2 : u.m 2 = 253) (h3 : u.m 3 = 118) :
    CntAt A n (t + 1) (clk + stepN r u) (stepR r u) ∧ (stepU r u).m = u.m ∧ t < 2 * cntN n + 1 := by
  have hN := cntN_pos n hn
  obtain ⟨hpx, h⟩ := h
  rcases h with ⟨-, j, hj, ⟨rfl, rfl, hpc, ha, hb⟩ | ⟨rfl, rfl, hpc, ha, hb⟩⟩ | ⟨-, rfl, rfl, hpc, ha, hb⟩ | ⟨hh', _⟩
  · obtain ⟨e1, e2⟩ := Cs.step_eq ⟨r, 0, u⟩ 60 (by show u.m r.pc = 60; rw [hpc, h0]) hh
    obtain ⟨e3, e4⟩ := Cs.do_incA (Cs.fetched ⟨r, 0, u⟩)
    unfold stepR stepN stepU
    rw [e1, e2, e3, e4]
    refine ⟨⟨rfl, .inl ⟨hh, j, hj, .inr ⟨rfl, rfl, ?_, ?_, hb⟩⟩⟩, rfl, by omega⟩
    · show up1 r.pc = 1; rw [hpc]; rfl
    · show (r.a + 1 + 0) % 256 = _; rw [ha]; omega
  · obtain ⟨e1, e2⟩ := Cs.step_eq ⟨r, 0, u⟩ 16 (by show u.m r.pc = 16; rw [hpc, h1]) hh
    obtain ⟨e3, e4⟩ := Cs.do_djnz (Cs.fetched ⟨r, 0, u⟩)
    have e5 : (Cs.fetched ⟨r, 0, u⟩).decB = (r.b + 255) % 256 := rfl
    unfold stepR stepN stepU
    rw [e1, e2, e3, e4, e5]
    have e6 : up1 r.pc = 2 := by rw [hpc]; rfl
    by_cases hz : j + 1 = cntN n
    · have e7 : (r.b + 255) % 256 = 0 := by rw [hb]; omega
      rw [e7]
      refine ⟨⟨rfl, .inr (.inl ⟨hh, by omega, ?_, ?_, ?_, rfl⟩)⟩, rfl, by omega⟩
      · show 17 * j + 4 + 8 = _; omega
      · show up1 (up1 r.pc) = 3; rw [e6]; rfl
      · show r.a = _; rw [ha, ← hz]; rfl
    · have e7 : ¬ (r.b + 255) % 256 = 0 := by rw [hb]; omega
      have e8 : decide ((r.b + 255) % 256 ≠ 0) = true := decide_eq_true e7
      rw [e8]
      refine ⟨⟨rfl, .inl ⟨hh, j + 1, by omega, .inl ⟨by omega, ?_, ?_, ?_, ?_⟩⟩⟩, rfl, by omega⟩
      · show 17 * j + 4 + 13 = _; omega
      · show wMove (up1 (up1 r.pc)) (u.m (up1 r.pc)) = 0; rw [e6, h2]; rfl
      · show r.a = _; rw [ha]; rfl
      · show (r.b + 255) % 256 = _; rw [hb]; omega
  · obtain ⟨e1, e2⟩ := Cs.step_eq ⟨r, 0, u⟩ 118 (by show u.m r.pc = 118; rw [hpc, h3]) hh
    obtain ⟨e3, e4⟩ := Cs.do_halt (Cs.fetched ⟨r, 0, u⟩)
    unfold stepR stepN stepU
    rw [e1, e2, e3, e4]
    refine ⟨⟨rfl, .inr (.inr ⟨rfl, rfl, rfl, ?_, ha, hb⟩)⟩, rfl, by omega⟩
    show up1 r.pc = 4; rw [hpc]; rfl
  · rw [hh] at hh'; cases hh'
-- a call, and back
theorem do_call (s : Cs) : s.perform 205 = (s.nextNum.setWZ s.nextNumV).start s.nextNumV ∧ s.performC 205 = 17 := ⟨rfl, rfl⟩
theorem do_ret (s : Cs) : s.perform 201 = s.back ∧ s.performC 201 = 10 := ⟨rfl, rfl⟩
theorem upd_at (m : Nat → Nat) (a v : Nat) : upd m a v a = v := if_pos rfl
theorem upd_ne (m : Nat → Nat) (a v i : Nat) (h : i ≠ a) : upd m a v i = m i := if_neg h
theorem push_m (s : Cs) (v : Nat) : (s.push v).u.m = upd (upd s.u.m (dn1 s.r.sp) (wHigh v)) (dn1 (dn1 s.r.sp)) (v % 256) := by
  unfold Cs.push
  generalize dn1 (dn1 s.r.sp) = q
  generalize dn1 s.r.sp = p
  rfl
theorem push_r (s : Cs) (v : Nat) : (s.push v).r = { s.r with sp := dn1 (dn1 s.r.sp) } := by
  unfold Cs.push
  generalize dn1 (dn1 s.r.sp) = q
  generalize dn1 s.r.sp = p
  rfl
theorem push_px (s : Cs) (v : Nat) : (s.push v).px = s.px := by
  unfold Cs.push
  generalize dn1 (dn1 s.r.sp) = q
  generalize dn1 s.r.sp = p
  rfl
theorem start_m (s : Cs) (a : Nat) : (s.start a).u.m = upd (upd s.u.m (dn1 s.r.sp) (wHigh s.r.pc)) (dn1 (dn1 s.r.sp)) (s.r.pc % 256) := push_m s s.r.pc
theorem start_r (s : Cs) (a : Nat) : (s.start a).r = { s.r with sp := dn1 (dn1 s.r.sp), pc := a, wz := a } := by
  unfold Cs.start Cs.goTo Cs.push
  generalize dn1 (dn1 s.r.sp) = q
  generalize dn1 s.r.sp = p
  rfl
theorem fetched_r (s : Cs) : s.fetched.r = { s.r with dl := false, px := 0, pc := up1 s.r.pc, r := s.r.r / 128 * 128 + (s.r.r % 128 + 1) % 128 } := rfl
theorem fetched_m (s : Cs) : s.fetched.u.m = s.u.m := rfl
theorem fetched_px (s : Cs) : s.fetched.px = s.r.px := rfl
theorem nextNum_r (s : Cs) : s.nextNum.r = { s.r with pc := (s.r.pc + 2) % 65536 } := rfl
theorem nextNum_m (s : Cs) : s.nextNum.u.m = s.u.m := rfl
theorem numV_eq (s : Cs) (a : Nat) : s.numV a = s.u.m (up1 a) * 256 + s.u.m a := rfl
theorem back_r (s : Cs) : s.back.r = { s.r with sp := (s.r.sp + 2) % 65536, pc := s.popV, wz := s.popV } := rfl
theorem step_begin (r : Rg) (u : U) (o : Nat) (hm : u.m r.pc = o) (hh : r.ht = false) : ∃ s : Cs, s.r = { r with dl := false, px := 0, pc := up1 r.pc, r := r.r / 128 * 128 + (r.r % 128 + 1) % 128 } ∧ s.u.m = u.m ∧ s.px = r.px ∧ stepR r u = (s.perform o).r ∧ (stepU r u).m = (s.perform o).u.m ∧ stepN r u = s.performC o := by
  obtain ⟨e1, e2⟩ := Cs.step_eq ⟨r, 0, u⟩ o hm hh
  exact ⟨_, fetched_r _, fetched_m _, fetched_px _, congrArg Cs.r e1, congrArg (fun s => s.u.m) e1, e2⟩
theorem call_once (r : Rg) (u : U) (to : Nat) (hpc : r.pc ≤ 50) (hsp : 32784 ≤ r.sp) (hsp2 : r.sp < 65536) (hh : r.ht = false) (hpx : r.px = 0) (h0 : u.m r.pc = 205) (h1 : u.m (r.pc + 1) = to % 256) (h2 : u.m (r.pc + 2) = to / 256) :
    stepN r u = 17 ∧ stepR r u = { r with dl := false, pc := to, wz := to, sp := r.sp - 2, r := r.r / 128 * 128 + (r.r % 128 + 1) % 128 } ∧ (stepU r u).m = upd (upd u.m (r.sp - 1) 0) (r.sp - 2) (r.pc + 3) := by
  obtain ⟨s, hr, hu, -, e1, e2, e3⟩ := step_begin r u 205 h0 hh
  obtain ⟨e4, e5⟩ := do_call s
  have p1 : up1 r.pc = r.pc + 1 := by unfold up1; omega
  have p2 : up1 (r.pc + 1) = r.pc + 2 := by unfold up1; omega
  have p3 : (r.pc + 1 + 2) % 65536 = r.pc + 3 := by omega
  have s1 : dn1 r.sp = r.sp - 1 := by unfold dn1; omega
  have s2 : dn1 (r.sp - 1) = r.sp - 2 := by unfold dn1; omega
  rw [p1] at hr
  have e6 : s.nextNumV = to := by
    show s.numV s.r.pc = to
    rw [numV_eq, hu, hr]
    show u.m (up1 (r.pc + 1)) * 256 + u.m (r.pc + 1) = to
    rw [p2, h1, h2]; omega
  have e7 : (s.nextNum.setWZ to).r = { r with dl := false, px := 0, pc := r.pc + 3, wz := to, r := r.r / 128 * 128 + (r.r % 128 + 1) % 128 } := by
    show { s.nextNum.r with wz := to } = _
    rw [nextNum_r, hr]
    show { r with dl := false, px := 0, pc := (r.pc + 1 + 2) % 65536, wz := to, r := r.r / 128 * 128 + (r.r % 128 + 1) % 128 } = _
    rw [p3]
  have e8 : (s.nextNum.setWZ to).u.m = u.m := hu
  rw [e6] at e4
  rw [e1, e2, e3, e4, e5, start_r, start_m, e7, e8]
  refine ⟨rfl, ?_, ?_⟩
  · show { r with dl := false, px := 0, pc := to, wz := to, sp := dn1 (dn1 r.sp), r := r.r / 128 * 128 + (r.r % 128 + 1) % 128 } = _
    rw [s1, s2, hpx]
  · show upd (upd u.m (dn1 r.sp) (wHigh (r.pc + 3))) (dn1 (dn1 r.sp)) ((r.pc + 3) % 256) = _
    have q1 : wHigh (r.pc + 3) = 0 := Nat.div_eq_of_lt (by omega)
    have q2 : (r.pc + 3) % 256 = r.pc + 3 := by omega
    rw [s1, s2, q1, q2]
theorem ret_once (r : Rg) (u : U) (hsp : r.sp ≤ 65533) (hh : r.ht = false) (hpx : r.px = 0) (h0 : u.m r.pc = 201) :
    stepN r u = 10 ∧ stepR r u = { r with dl := false, pc := u.m (r.sp + 1) * 256 + u.m r.sp, wz := u.m (r.sp + 1) * 256 + u.m r.sp, sp := r.sp + 2, r := r.r / 128 * 128 + (r.r % 128 + 1) % 128 } := by
  obtain ⟨s, hr, hu, -, e1, e2, e3⟩ := step_begin r u 201 h0 hh
  obtain ⟨e4, e5⟩ := do_ret s
  have s1 : up1 r.sp = r.sp + 1 := by unfold up1; omega
  have s2 : (r.sp + 2) % 65536 = r.sp + 2 := by omega
  have e6 : s.popV = u.m (r.sp + 1) * 256 + u.m r.sp := by
    show s.numV s.r.sp = _
    rw [numV_eq, hu, hr, s1]
  rw [e1, e3, e4, e5, back_r, e6, hr]
  refine ⟨rfl, ?_⟩
  show { r with dl := false, px := 0, pc := u.m (r.sp + 1) * 256 + u.m r.sp, wz := u.m (r.sp + 1) * 256 + u.m r.sp, sp := (r.sp + 2) % 65536, r := r.r / 128 * 128 + (r.r % 128 + 1) % 128 } = _
  rw [s2, hpx]
end Go.Proofs.YtljjgakfnajifaaGreatDoor
namespace Go.Proofs.YtljjgakfnajifaaGreatDoor
open Go.RowKit
def go (r : Rg) (u : U) : Nat → Rg × U
  | 0 => (r, u)
  | k + 1 => (stepR (go r u k).1 (go r u k).2, stepU (go r u k).1 (go r u k).2)
theorem go2 (r : Rg) (u : U) : go r u 2 = (stepR (stepR r u) (stepU r u), stepU (stepR r u) (stepU r u)) := rfl
theorem go4 (r : Rg) (u : U) : go r u 4 = go (go r u 2).1 (go r u 2).2 2 := rfl
def asWas (r x : Rg) : Rg := { x with pc := r.pc, r := r.r, wz := r.wz, dl := r.dl }
theorem pop_r (s : Cs) : s.pop.r = { s.r with sp := (s.r.sp + 2) % 65536 } := rfl
theorem pop_px (s : Cs) : s.pop.px = s.px := rfl
theorem setPair_r (s : Cs) (n : Int) (v : Nat) : (s.setPair n v).r = s.r.setPair (s.stands n) v := rfl
theorem pair_r (s : Cs) (n : Int) : s.pair n = s.r.pair (s.stands n) := rfl
theorem stands_at (s : Cs) (n : Int) (k : Int) (h : (if n = 2 then rgIdx s.px else n) = k) : s.stands n = k := h
theorem push_pop (r : Rg) (u : U) (hf : r.Fits) (n k : Int) (px o1 : Nat) (hk : k = 0 ∨ k = 2 ∨ k = 4 ∨ k = 6) (hst : (if n = 2 then rgIdx px else n) = k)
    (hpc : r.pc ≤ 210) (hsp : 300 ≤ r.sp) (hsp2 : r.sp ≤ 60000) (hh : r.ht = false) (h0 : u.m r.pc = o1)
    (d1 : ∀ s : Cs, s.perform o1 = s.push (s.pair n)) (hpx : r.px = px) :
    ∃ P, P = r.pair k ∧ P < 65536 ∧ stepR r u = { r with dl := false, px := 0, pc := r.pc + 1, sp := r.sp - 2, r := r.r / 128 * 128 + (r.r % 128 + 1) % 128 } ∧ (stepU r u).m = upd (upd u.m (r.sp - 1) (P / 256)) (r.sp - 2) (P % 256) := by
  obtain ⟨s, hr, hu, hp, e1, e2, -⟩ := step_begin r u o1 h0 hh
  have p1 : up1 r.pc = r.pc + 1 := by unfold up1; omega
  have s1 : dn1 r.sp = r.sp - 1 := by unfold dn1; omega
  have s2 : dn1 (r.sp - 1) = r.sp - 2 := by unfold dn1; omega
  rw [p1] at hr
  have e3 : s.pair n = r.pair k := by
    rw [pair_r, stands_at s n k (by rw [hp, hpx]; exact hst), hr]
    rcases hk with rfl | rfl | rfl | rfl <;> rfl
  rw [e1, e2, d1 s, e3, push_r, push_m, hu, hr]
  refine ⟨_, rfl, r.pair_lt hf k, ?_, ?_⟩
  · show { r with dl := false, px := 0, pc := r.pc + 1, sp := dn1 (dn1 r.sp), r := r.r / 128 * 128 + (r.r % 128 + 1) % 128 } = _
    rw [s1, s2]
  · show upd (upd u.m (dn1 r.sp) (wHigh (r.pair k))) (dn1 (dn1 r.sp)) (r.pair k % 256) = _
    rw [s1, s2]; rfl
theorem pop_push (r : Rg) (u : U) (n k : Int) (px o2 P : Nat) (hst : (if n = 2 then rgIdx px else n) = k)
    (hpc : r.pc ≤ 210) (hsp : 298 ≤ r.sp) (hsp2 : r.sp ≤ 60000) (hh : r.ht = false) (h0 : u.m r.pc = o2) (hlo : u.m r.sp = P % 256) (hhi : u.m (r.sp + 1) = P / 256)
    (d2 : ∀ s : Cs, s.perform o2 = s.pop.setPair n s.popV) (hpx : r.px = px) :
    stepR r u = ({ r with dl := false, px := 0, pc := r.pc + 1, sp := r.sp + 2, r := r.r / 128 * 128 + (r.r % 128 + 1) % 128 } : Rg).setPair k P := by
  obtain ⟨s, hr, hu, hp, e1, -, -⟩ := step_begin r u o2 h0 hh
  have p1 : up1 r.pc = r.pc + 1 := by unfold up1; omega
  have s1 : up1 r.sp = r.sp + 1 := by unfold up1; omega
  have s2 : (r.sp + 2) % 65536 = r.sp + 2 := by omega
  rw [p1] at hr
  have e3 : s.popV = P := by
    show s.numV s.r.sp = _
    rw [numV_eq, hu, hr]
    show u.m (up1 r.sp) * 256 + u.m r.sp = P
    rw [s1, hlo, hhi]; omega
  rw [e1, d2 s, e3, setPair_r, stands_at s.pop n k (by rw [pop_px, hp, hpx]; exact hst), pop_r, hr]
  show ({ r with dl := false, px := 0, pc := r.pc + 1, sp := (r.sp + 2) % 65536, r := r.r / 128 * 128 + (r.r % 128 + 1) % 128 } : Rg).setPair k P = _
  rw [s2]
theorem again_pair (r : Rg) (hf : r.Fits) (k : Int) (hk : k = 0 ∨ k = 2 ∨ k = 4 ∨ k = 6) (pc t : Nat) (hpx : r.px = 0) :
    asWas r (({ r with dl := false, px := 0, pc := pc, sp := r.sp - 2 + 2, r := t } : Rg).setPair k (r.pair k)) = { r with sp := r.sp - 2 + 2 } := by
  have := hf.a; have := hf.f; have := hf.b; have := hf.c; have := hf.h; have := hf.l
  obtain ⟨a, f, b, c, d, e, h, l, x0, x1, x2, x3, x4, x5, x6, x7, ix, iy, sp, pc', wz, i, r, im, px, q1, q2, ht, dl⟩ := r
  simp only at *
  subst hpx
  rcases hk with rfl | rfl | rfl | rfl
  · show Rg.mk a f ((b * 256 + c) / 256) ((b * 256 + c) % 256) d e h l x0 x1 x2 x3 x4 x5 x6 x7 ix iy (sp - 2 + 2) pc' wz i r im 0 q1 q2 ht dl = Rg.mk a f b c d e h l x0 x1 x2 x3 x4 x5 x6 x7 ix iy (sp - 2 + 2) pc' wz i r im 0 q1 q2 ht dl
    rw [show (b * 256 + c) / 256 = b by omega, show (b * 256 + c) % 256 = c by omega]
  · show Rg.mk a f b c d e ((h * 256 + l) / 256) ((h * 256 + l) % 256) x0 x1 x2 x3 x4 x5 x6 x7 ix iy (sp - 2 + 2) pc' wz i r im 0 q1 q2 ht dl = Rg.mk a f b c d e h l x0 x1 x2 x3 x4 x5 x6 x7 ix iy (sp - 2 + 2) pc' wz i r im 0 q1 q2 ht dl
    rw [show (h * 256 + l) / 256 = h by omega, show (h * 256 + l) % 256 = l by omega]
  · show Rg.mk ((a * 256 + f) / 256) ((a * 256 + f) % 256) b c d e h l x0 x1 x2 x3 x4 x5 x6 x7 ix iy (sp - 2 + 2) pc' wz i r im 0 q1 q2 ht dl = Rg.mk a f b c d e h l x0 x1 x2 x3 x4 x5 x6 x7 ix iy (sp - 2 + 2) pc' wz i r im 0 q1 q2 ht dl
    rw [show (a * 256 + f) / 256 = a by omega, show (a * 256 + f) % 256 = f by omega]
  · rfl
theorem back_push (r : Rg) (u : U) (hf : r.Fits) (n k : Int) (o1 o2 : Nat) (hk : k = 0 ∨ k = 2 ∨ k = 4) (hst : (if n = 2 then rgIdx 0 else n) = k)
    (hpc : r.pc ≤ 200) (hsp : 300 ≤ r.sp) (hsp2 : r.sp ≤ 60000) (hh : r.ht = false) (hpx : r.px = 0) (h0 : u.m r.pc = o1) (h1 : u.m (r.pc + 1) = o2)
    (d1 : ∀ s : Cs, s.perform o1 = s.push (s.pair n)) (d2 : ∀ s : Cs, s.perform o2 = s.pop.setPair n s.popV) : asWas r (go r u 2).1 = r := by
  obtain ⟨P, hP, hP2, e1, e2⟩ := push_pop r u hf n k 0 o1 (by rcases hk with h | h | h <;> simp [h]) hst (by omega) hsp hsp2 hh h0 d1 hpx
  have e3 := pop_push (stepR r u) (stepU r u) n k 0 o2 P hst (by rw [e1]; show r.pc + 1 ≤ 210; omega) (by rw [e1]; show 298 ≤ r.sp - 2; omega) (by rw [e1]; show r.sp - 2 ≤ 60000; omega) (by rw [e1]; exact hh)
    (by rw [e1, e2]; show upd _ _ _ (r.pc + 1) = o2; rw [upd_ne _ _ _ _ (by omega), upd_ne _ _ _ _ (by omega), h1])
    (by rw [e1, e2]; exact upd_at _ _ _)
    (by rw [e1, e2]; show upd _ _ _ (r.sp - 2 + 1) = _; rw [upd_ne _ _ _ _ (by omega), show r.sp - 2 + 1 = r.sp - 1 by omega, upd_at]) d2 (by rw [e1])
  show asWas r (stepR (stepR r u) (stepU r u)) = r
  rw [e3, e1, hP]
  have e4 := again_pair r hf k (by rcases hk with h | h | h <;> simp [h]) (r.pc + 1 + 1) ((r.r / 128 * 128 + (r.r % 128 + 1) % 128) / 128 * 128 + ((r.r / 128 * 128 + (r.r % 128 + 1) % 128) % 128 + 1) % 128) hpx
  refine Eq.trans ?_ (e4.trans ?_)
  · rfl
  · rw [show r.sp - 2 + 2 = r.sp by omega]
theorem do_C5 (s : Cs) : s.perform 197 = s.push (s.pair 0) := rfl
theorem do_C1 (s : Cs) : s.perform 193 = s.pop.setPair 0 s.popV := rfl
theorem do_E5 (s : Cs) : s.perform 229 = s.push (s.pair 2) := rfl
theorem do_E1 (s : Cs) : s.perform 225 = s.pop.setPair 2 s.popV := rfl
theorem do_F5 (s : Cs) : s.perform 245 = s.push (s.pair 4) := rfl
theorem do_F1 (s : Cs) : s.perform 241 = s.pop.setPair 4 s.popV := rfl
theorem prefix_once (r : Rg) (u : U) (o : Nat) (ho : o = 221 ∨ o = 253) (hpc : r.pc ≤ 210) (hh : r.ht = false) (h0 : u.m r.pc = o) :
    stepR r u = { r with dl := false, px := o, pc := r.pc + 1, r := r.r / 128 * 128 + (r.r % 128 + 1) % 128 } ∧ (stepU r u).m = u.m := by
  obtain ⟨s, hr, hu, -, e1, e2, -⟩ := step_begin r u o h0 hh
  have p1 : up1 r.pc = r.pc + 1 := by unfold up1; omega
  rw [p1] at hr
  rw [e1, e2, (Cs.do_prefix s o ho).1]
  refine ⟨?_, hu⟩
  show { s.r with px := o } = _
  rw [hr]
def Rg.base (r : Rg) : Rg := { r with pc := 0, r := 0, wz := 0, dl := false, px := 0, sp := 0, iy := 0 }
theorem from_base (r x : Rg) (h : x.base = r.base) (h1 : x.sp = r.sp) (h2 : x.iy = r.iy) (h3 : x.px = r.px) : asWas r x = r := by
  obtain ⟨a, f, b, c, d, e, h, l, x0, x1, x2, x3, x4, x5, x6, x7, ix, iy, sp, pc, wz, i, r, im, px, q1, q2, ht, dl⟩ := r
  obtain ⟨_, _, _, _, _, _, _, _, _, _, _, _, _, _, _, _, _, _, _, _, _, _, _, _, _, _, _, _, _⟩ := x
  simp only [Rg.base, Rg.mk.injEq] at h
  simp only at h1 h2 h3
  simp only [asWas, Rg.mk.injEq]
  simp [h, h1, h2, h3]
theorem back_push_iy (r : Rg) (u : U) (hf : r.Fits) (hpc : r.pc ≤ 200) (hsp : 300 ≤ r.sp) (hsp2 : r.sp ≤ 60000) (hh : r.ht = false) (hpx : r.px = 0) (h0 : u.m r.pc = 253) (h1 : u.m (r.pc + 1) = 229) (h2 : u.m (r.pc + 2) = 253) (h3 : u.m (r.pc + 3) = 225) : asWas r (go r u 4).1 = r := by
  obtain ⟨a1, a2⟩ := prefix_once r u 253 (.inr rfl) (by omega) hh h0
  have hf' : (stepR r u).Fits := by rw [a1]; exact { hf with pc := (by show r.pc + 1 < 65536; omega), r := (by have := hf.r; show r.r / 128 * 128 + (r.r % 128 + 1) % 128 < 256; omega), px := (by show (253 : Nat) < 256; decide) }
  obtain ⟨P, hP, hP2, e1, e2⟩ := push_pop (stepR r u) (stepU r u) hf' 2 6 253 229 (by simp) rfl (by rw [a1]; show r.pc + 1 ≤ 210; omega) (by rw [a1]; exact hsp) (by rw [a1]; exact hsp2) (by rw [a1]; exact hh) (by rw [a1, a2]; exact h1) do_E5 (by rw [a1])
  have q1 : (stepR r u).sp = r.sp := by rw [a1]
  have q2 : (stepR r u).pc = r.pc + 1 := by rw [a1]
  have q3 : (stepR r u).pair 6 = r.iy := by rw [a1]; rfl
  rw [q3] at hP
  rw [q1, a2] at e2
  have r1 : (stepR (stepR r u) (stepU r u)).sp = r.sp - 2 := by rw [e1]; show (stepR r u).sp - 2 = _; rw [q1]
  have r2 : (stepR (stepR r u) (stepU r u)).pc = r.pc + 2 := by rw [e1]; show (stepR r u).pc + 1 = _; rw [q2]
  have r3 : (stepR (stepR r u) (stepU r u)).ht = false := by rw [e1, a1]; exact hh
  obtain ⟨b1, b2⟩ := prefix_once (stepR (stepR r u) (stepU r u)) (stepU (stepR r u) (stepU r u)) 253 (.inr rfl) (by omega) r3
    (by rw [r2, e2, upd_ne _ _ _ _ (by omega), upd_ne _ _ _ _ (by omega), h2])
  have t1 : (stepR (stepR (stepR r u) (stepU r u)) (stepU (stepR r u) (stepU r u))).sp = r.sp - 2 := by rw [b1]; exact r1
  have t2 : (stepR (stepR (stepR r u) (stepU r u)) (stepU (stepR r u) (stepU r u))).pc = r.pc + 3 := by rw [b1]; show (stepR (stepR r u) (stepU r u)).pc + 1 = _; rw [r2]
  have e3 := pop_push (stepR (stepR (stepR r u) (stepU r u)) (stepU (stepR r u) (stepU r u))) (stepU (stepR (stepR r u) (stepU r u)) (stepU (stepR r u) (stepU r u))) 2 6 253 225 P rfl (by omega) (by omega) (by omega) (by rw [b1]; exact r3)
    (by rw [b2, t2, e2, upd_ne _ _ _ _ (by omega), upd_ne _ _ _ _ (by omega), h3])
    (by rw [b2, t1, e2, upd_at])
    (by rw [b2, t1, e2, upd_ne _ _ _ _ (by omega), show r.sp - 2 + 1 = r.sp - 1 by omega, upd_at]) do_E1 (by rw [b1])
  have w1 : Rg.base (stepR r u) = Rg.base r := by rw [a1]; rfl
  have w2 : Rg.base (stepR (stepR r u) (stepU r u)) = Rg.base (stepR r u) := by rw [e1]; rfl
  have w3 : Rg.base (stepR (stepR (stepR r u) (stepU r u)) (stepU (stepR r u) (stepU r u))) = Rg.base (stepR (stepR r u) (stepU r u)) := by rw [b1]; rfl
  rw [go4]
  have G := go2 r u
  generalize go r u 2 = g at *
  subst G
  show asWas r (go (stepR (stepR r u) (stepU r u)) (stepU (stepR r u) (stepU r u)) 2).1 = r
  generalize stepU (stepR r u) (stepU r u) = ua at *
  generalize stepR (stepR r u) (stepU r u) = ra at *
  rw [go2]
  generalize stepU ra ua = ub at *
  generalize stepR ra ua = rb at *
  refine from_base r _ ?_ ?_ ?_ ?_
  · rw [← w1, ← w2, ← w3]; show (stepR rb ub).base = _; rw [e3]; rfl
  · exact (congrArg Rg.sp e3).trans (by show rb.sp + 2 = r.sp; omega)
  · exact (congrArg Rg.iy e3).trans hP
  · exact (congrArg Rg.px e3).trans hpx.symm
theorem once (r : Rg) (u : U) (o : Nat) (hpc : r.pc ≤ 210) (hh : r.ht = false) (h0 : u.m r.pc = o) : ∃ s : Cs, s.r = { r with dl := false, px := 0, pc := r.pc + 1, r := r.r / 128 * 128 + (r.r % 128 + 1) % 128 } ∧ s.u.m = u.m ∧ s.px = r.px ∧ stepR r u = (s.perform o).r ∧ (stepU r u).m = (s.perform o).u.m := by
  obtain ⟨s, hr, hu, hp, e1, e2, -⟩ := step_begin r u o h0 hh
  have p1 : up1 r.pc = r.pc + 1 := by unfold up1; omega
  rw [p1] at hr
  exact ⟨s, hr, hu, hp, e1, e2⟩
theorem do_D9 (s : Cs) : s.perform 217 = s.setR (s.r.swap true) := rfl
theorem do_08 (s : Cs) : s.perform 8 = s.setR (s.r.swap false) := rfl
theorem do_EB (s : Cs) : s.perform 235 = s.swapDE := rfl
theorem do_E3 (s : Cs) : s.perform 227 = s.swapTop := rfl
theorem do_3C (s : Cs) : s.perform 60 = (s.setA (nAddV s.r.a 1 0)).setF (nKeep (nAddF s.r.a 1 0) s.r.f) := rfl
theorem do_3D (s : Cs) : s.perform 61 = (s.setA (nSubV s.r.a 1 0)).setF (nKeep (nSubF s.r.a 1 0) s.r.f) := by
  have h1 : s.perform 61 = s.count 7 true := rfl
  have h2 : s.count 7 true = (s.setOne 7 (Cs.countV true (s.one 7))).setF (Cs.countF true (s.one 7) s.r.f) := if_neg (by decide)
  have h3 : s.one 7 = s.r.a := rfl
  have h4 : Cs.countV true s.r.a = nSubV s.r.a 1 0 := by unfold Cs.countV; exact cond_true _ _
  have h5 : Cs.countF true s.r.a s.r.f = nKeep (nSubF s.r.a 1 0) s.r.f := by unfold Cs.countF; exact cond_true _ _
  rw [h1, h2, h3, h4, h5]
  generalize nSubV s.r.a 1 0 = v
  generalize nKeep (nSubF s.r.a 1 0) s.r.f = g
  rfl
theorem do_03 (s : Cs) : s.perform 3 = s.setPair 0 (up1 (s.pair 0)) := rfl
theorem do_0B (s : Cs) : s.perform 11 = s.setPair 0 (dn1 (s.pair 0)) := rfl
theorem back_swap (r : Rg) (u : U) (o : Nat) (b : Bool) (d : ∀ s : Cs, s.perform o = s.setR (s.r.swap b)) (hpc : r.pc ≤ 200) (hh : r.ht = false) (hpx : r.px = 0) (h0 : u.m r.pc = o) (h1 : u.m (r.pc + 1) = o) : asWas r (go r u 2).1 = r := by
  obtain ⟨s, hr, hu, hp, e1, e2⟩ := once r u o (by omega) hh h0
  rw [d s] at e1 e2
  have e1 : stepR r u = s.r.swap b := e1
  have e2 : (stepU r u).m = u.m := e2.trans hu
  rw [hr] at e1
  have g1 : (stepR r u).pc = r.pc + 1 := by rw [e1]; cases b <;> rfl
  have g2 : (stepR r u).ht = false := by rw [e1]; cases b <;> exact hh
  obtain ⟨s', hr', hu', hp', f1, f2⟩ := once (stepR r u) (stepU r u) o (by omega) g2 (by rw [g1, e2, h1])
  rw [d s'] at f1
  have f1 : stepR (stepR r u) (stepU r u) = s'.r.swap b := f1
  show asWas r (stepR (stepR r u) (stepU r u)) = r
  rw [f1, hr', e1]
  obtain ⟨a, f, b', c, d, e, h, l, x0, x1, x2, x3, x4, x5, x6, x7, ix, iy, sp, pc', wz, i, r, im, px, q1, q2, ht, dl⟩ := r
  simp only at hpx
  subst hpx
  cases b <;> rfl
theorem back_de (r : Rg) (u : U) (hpc : r.pc ≤ 200) (hh : r.ht = false) (hpx : r.px = 0) (h0 : u.m r.pc = 235) (h1 : u.m (r.pc + 1) = 235) : asWas r (go r u 2).1 = r := by
  obtain ⟨s, hr, hu, hp, e1, e2⟩ := once r u 235 (by omega) hh h0
  rw [do_EB s] at e1 e2
  have e2 : (stepU r u).m = u.m := e2.trans hu
  have e1 : stepR r u = { s.r with d := s.r.h, e := s.r.l, h := s.r.d, l := s.r.e } := e1
  rw [hr] at e1
  have g1 : (stepR r u).pc = r.pc + 1 := by rw [e1]
  have g2 : (stepR r u).ht = false := by rw [e1]; exact hh
  obtain ⟨s', hr', hu', hp', f1, f2⟩ := once (stepR r u) (stepU r u) 235 (by omega) g2 (by rw [g1, e2, h1])
  rw [do_EB s'] at f1
  have f1 : stepR (stepR r u) (stepU r u) = { s'.r with d := s'.r.h, e := s'.r.l, h := s'.r.d, l := s'.r.e } := f1
  show asWas r (stepR (stepR r u) (stepU r u)) = r
  rw [f1, hr', e1]
  show ({ r with px := 0 } : Rg) = r
  rw [← hpx]
theorem back_inc (r : Rg) (u : U) (hf : r.Fits) (hpc : r.pc ≤ 200) (hh : r.ht = false) (hpx : r.px = 0) (h0 : u.m r.pc = 60) (h1 : u.m (r.pc + 1) = 61) : { asWas r (go r u 2).1 with f := r.f } = r := by
  obtain ⟨s, hr, hu, hp, e1, e2⟩ := once r u 60 (by omega) hh h0
  rw [do_3C s] at e1 e2
  have e2 : (stepU r u).m = u.m := e2.trans hu
  have e1 : stepR r u = { s.r with a := nAddV s.r.a 1 0, f := nKeep (nAddF s.r.a 1 0) s.r.f } := e1
  rw [hr] at e1
  have g1 : (stepR r u).pc = r.pc + 1 := by rw [e1]
  have g2 : (stepR r u).ht = false := by rw [e1]; exact hh
  have g3 : (stepR r u).a = (r.a + 1) % 256 := by rw [e1]; rfl
  obtain ⟨s', hr', hu', hp', f1, f2⟩ := once (stepR r u) (stepU r u) 61 (by omega) g2 (by rw [g1, e2, h1])
  rw [do_3D s'] at f1
  have f1 : stepR (stepR r u) (stepU r u) = { s'.r with a := nSubV s'.r.a 1 0, f := nKeep (nSubF s'.r.a 1 0) s'.r.f } := f1
  have g4 : nSubV s'.r.a 1 0 = r.a := by
    rw [hr']
    show nSubV (stepR r u).a 1 0 = _
    rw [g3]
    have := hf.a
    show ((r.a + 1) % 256 + 512 - (1 + 0)) % 256 = r.a
    omega
  show { asWas r (stepR (stepR r u) (stepU r u)) with f := r.f } = r
  rw [f1, g4, hr', e1]
  show ({ r with px := 0 } : Rg) = r
  rw [← hpx]
theorem back_bc (r : Rg) (u : U) (hf : r.Fits) (hpc : r.pc ≤ 200) (hh : r.ht = false) (hpx : r.px = 0) (h0 : u.m r.pc = 3) (h1 : u.m (r.pc + 1) = 11) : asWas r (go r u 2).1 = r := by
  obtain ⟨s, hr, hu, hp, e1, e2⟩ := once r u 3 (by omega) hh h0
  rw [do_03 s] at e1 e2
  have e2 : (stepU r u).m = u.m := e2.trans hu
  have e1 : stepR r u = { s.r with b := up1 (s.r.b * 256 + s.r.c) / 256, c := up1 (s.r.b * 256 + s.r.c) % 256 } := e1
  rw [hr] at e1
  have g1 : (stepR r u).pc = r.pc + 1 := by rw [e1]
  have g2 : (stepR r u).ht = false := by rw [e1]; exact hh
  have g3 : (stepR r u).b = up1 (r.b * 256 + r.c) / 256 := by rw [e1]
  have g4 : (stepR r u).c = up1 (r.b * 256 + r.c) % 256 := by rw [e1]
  obtain ⟨s', hr', hu', hp', f1, f2⟩ := once (stepR r u) (stepU r u) 11 (by omega) g2 (by rw [g1, e2, h1])
  rw [do_0B s'] at f1
  have f1 : stepR (stepR r u) (stepU r u) = { s'.r with b := dn1 (s'.r.b * 256 + s'.r.c) / 256, c := dn1 (s'.r.b * 256 + s'.r.c) % 256 } := f1
  have g5 : dn1 (s'.r.b * 256 + s'.r.c) = r.b * 256 + r.c := by
    rw [hr']
    show dn1 ((stepR r u).b * 256 + (stepR r u).c) = _
    rw [g3, g4]
    have := hf.b; have := hf.c
    have h2 := up1_lt (r.b * 256 + r.c)
    have h3 : up1 (r.b * 256 + r.c) / 256 * 256 + up1 (r.b * 256 + r.c) % 256 = up1 (r.b * 256 + r.c) := by omega
    rw [h3]
    unfold dn1 up1
    omega
  have h4 : (r.b * 256 + r.c) / 256 = r.b := by have := hf.c; omega
  have h5 : (r.b * 256 + r.c) % 256 = r.c := by have := hf.c; omega
  show asWas r (stepR (stepR r u) (stepU r u)) = r
  rw [f1, g5, h4, h5, hr', e1]
  show ({ r with px := 0 } : Rg) = r
  rw [← hpx]
theorem swapTop_r (s : Cs) (V : Nat) (hV : s.popV = V) (h2 : s.px = 0) : s.swapTop.r = { s.r with wz := V, h := V / 256, l := V % 256 } := by
  unfold Cs.swapTop
  rw [hV, setPair_r]
  rw [stands_at _ 2 2 (by show (if (2 : Int) = 2 then rgIdx s.px else 2) = 2; rw [h2]; rfl)]
  rfl
theorem swapTop_m (s : Cs) (h2 : s.px = 0) : s.swapTop.u.m = upd (upd s.u.m s.r.sp ((s.r.h * 256 + s.r.l) % 256)) (up1 s.r.sp) (wHigh (s.r.h * 256 + s.r.l)) := by
  have e : s.pair 2 = s.r.h * 256 + s.r.l := by rw [pair_r, stands_at s 2 2 (by rw [h2]; rfl)]; rfl
  unfold Cs.swapTop
  rw [e]
  generalize s.popV = V
  generalize s.r.h * 256 + s.r.l = P
  rfl
theorem back_top (r : Rg) (u : U) (hf : r.Fits) (hpc : r.pc ≤ 200) (hsp : 300 ≤ r.sp) (hsp2 : r.sp ≤ 60000) (hh : r.ht = false) (hpx : r.px = 0) (h0 : u.m r.pc = 227) (h1 : u.m (r.pc + 1) = 227) : asWas r (go r u 2).1 = r := by
  obtain ⟨s, hr, hu, hp, e1, e2⟩ := once r u 227 (by omega) hh h0
  have s1 : up1 r.sp = r.sp + 1 := by unfold up1; omega
  obtain ⟨V, hV⟩ : ∃ V, s.popV = V := ⟨_, rfl⟩
  rw [do_E3 s] at e1 e2
  rw [swapTop_r s V hV (by rw [hp, hpx]), hr] at e1
  rw [swapTop_m s (by rw [hp, hpx]), hr, hu] at e2
  have e2 : (stepU r u).m = upd (upd u.m r.sp ((r.h * 256 + r.l) % 256)) (up1 r.sp) (wHigh (r.h * 256 + r.l)) := e2
  rw [s1] at e2
  have g1 : (stepR r u).pc = r.pc + 1 := by rw [e1]
  have g2 : (stepR r u).ht = false := by rw [e1]; exact hh
  have g3 : (stepR r u).sp = r.sp := by rw [e1]
  obtain ⟨s', hr', hu', hp', f1, f2⟩ := once (stepR r u) (stepU r u) 227 (by omega) g2 (by rw [g1, e2, upd_ne _ _ _ _ (by omega), upd_ne _ _ _ _ (by omega), h1])
  rw [do_E3 s'] at f1
  have g4 : s'.popV = r.h * 256 + r.l := by
    show s'.numV s'.r.sp = _
    rw [numV_eq, hu', hr']
    show (stepU r u).m (up1 (stepR r u).sp) * 256 + (stepU r u).m (stepR r u).sp = _
    rw [g3, s1, e2, upd_at, upd_ne _ _ _ _ (by omega), upd_at]
    show (r.h * 256 + r.l) / 256 * 256 + _ = _
    omega
  have hl := hf.l
  have h4 : (r.h * 256 + r.l) / 256 = r.h := by omega
  have h5 : (r.h * 256 + r.l) % 256 = r.l := by omega
  rw [swapTop_r s' _ g4 (by rw [hp', e1]), h4, h5] at f1
  show asWas r (stepR (stepR r u) (stepU r u)) = r
  rw [f1, hr', e1]
  show ({ r with px := 0 } : Rg) = r
  rw [← hpx]
end Go.Proofs.YtljjgakfnajifaaGreatDoor
namespace Go.Proofs.YtljjgakfnajifaaGreatDoor
open Go.RowKit
structure Ldir (r : Rg) (u : U) : Prop where
  m : (stepU r u).m = upd u.m (r.d * 256 + r.e) (u.m (r.h * 256 + r.l))
  hl : (stepR r u).h = wMove (r.h * 256 + r.l) 1 / 256 ∧ (stepR r u).l = wMove (r.h * 256 + r.l) 1 % 256
  de : (stepR r u).d = wMove (r.d * 256 + r.e) 1 / 256 ∧ (stepR r u).e = wMove (r.d * 256 + r.e) 1 % 256
  bc : (stepR r u).b = dn1 (r.b * 256 + r.c) / 256 ∧ (stepR r u).c = dn1 (r.b * 256 + r.c) % 256
  px : (stepR r u).px = 0
  ht : (stepR r u).ht = false
  on : dn1 (r.b * 256 + r.c) ≠ 0 → (stepR r u).pc = 0 ∧ stepN r u = 21
  off : dn1 (r.b * 256 + r.c) = 0 → (stepR r u).pc = 2 ∧ stepN r u = 16
theorem many_on (t : Cs) (h : t.lessV ≠ 0) : t.rare 2 6 0 = (t.manyLoad 1).again 0 ∧ t.rareC 2 6 0 = 21 := by
  have e0 : t.goesOn 6 0 = true := by
    unfold Cs.goesOn
    have e : t.manyOn 0 = t.manyLoadOn := if_pos rfl
    unfold Cs.manyLoadOn at e
    rw [e, decide_eq_true h]; rfl
  have e1 : t.rare 2 6 0 = t.many 6 0 := rfl
  have e2 : t.rareC 2 6 0 = t.manyC 6 0 := rfl
  rw [e1, e2]
  unfold Cs.many Cs.manyC
  rw [e0]
  exact ⟨rfl, rfl⟩
theorem many_off (t : Cs) (h : t.lessV = 0) : t.rare 2 6 0 = t.manyLoad 1 ∧ t.rareC 2 6 0 = 16 := by
  have e0 : t.goesOn 6 0 = false := by
    unfold Cs.goesOn
    have e : t.manyOn 0 = t.manyLoadOn := if_pos rfl
    unfold Cs.manyLoadOn at e
    have e9 : decide (t.lessV ≠ 0) = false := decide_eq_false (fun g => g h)
    rw [e, e9]; rfl
  have e1 : t.rare 2 6 0 = t.many 6 0 := rfl
  have e2 : t.rareC 2 6 0 = t.manyC 6 0 := rfl
  rw [e1, e2]
  unfold Cs.many Cs.manyC
  rw [e0]
  exact ⟨rfl, rfl⟩
theorem load_m (r : Rg) (u : U) : (Cs.manyLoad ⟨r, 0, u⟩ 1).u.m = upd u.m (r.d * 256 + r.e) (u.m (r.h * 256 + r.l)) := rfl
theorem load_hl (r : Rg) (u : U) : (Cs.manyLoad ⟨r, 0, u⟩ 1).r.h = wMove (r.h * 256 + r.l) 1 / 256 ∧ (Cs.manyLoad ⟨r, 0, u⟩ 1).r.l = wMove (r.h * 256 + r.l) 1 % 256 := ⟨rfl, rfl⟩
theorem load_de (r : Rg) (u : U) : (Cs.manyLoad ⟨r, 0, u⟩ 1).r.d = wMove (r.d * 256 + r.e) 1 / 256 ∧ (Cs.manyLoad ⟨r, 0, u⟩ 1).r.e = wMove (r.d * 256 + r.e) 1 % 256 := ⟨rfl, rfl⟩
theorem load_bc (r : Rg) (u : U) : (Cs.manyLoad ⟨r, 0, u⟩ 1).r.b = dn1 (r.b * 256 + r.c) / 256 ∧ (Cs.manyLoad ⟨r, 0, u⟩ 1).r.c = dn1 (r.b * 256 + r.c) % 256 := ⟨rfl, rfl⟩
theorem load_so (r : Rg) (u : U) : (Cs.manyLoad ⟨r, 0, u⟩ 1).r.px = r.px ∧ (Cs.manyLoad ⟨r, 0, u⟩ 1).r.ht = r.ht ∧ (Cs.manyLoad ⟨r, 0, u⟩ 1).r.pc = r.pc := ⟨rfl, rfl, rfl⟩
theorem ldir_once (r : Rg) (u : U) (hpc : r.pc = 0) (hh : r.ht = false) (h0 : u.m 0 = 237) (h1 : u.m 1 = 176) : Ldir r u := by
  obtain ⟨s, hr, hu, hp, e1, e2, e3⟩ := step_begin r u 237 (by rw [hpc, h0]) hh
  obtain ⟨d1, d2⟩ := Cs.do_rare s
  have e4 : s.nextV = 176 := by
    show s.u.m s.r.pc = 176
    rw [hu, hr]
    show u.m (up1 r.pc) = 176
    rw [hpc]; exact h1
  rw [e4] at d1 d2
  obtain ⟨t, ht⟩ : ∃ t, t = (s.ahead 0).fetch := ⟨_, rfl⟩
  rw [← ht] at d1 d2
  have d1 : s.perform 237 = t.rare 2 6 0 := d1
  have d2 : s.performC 237 = t.rareC 2 6 0 := d2
  rw [d1] at e1 e2
  rw [d2] at e3
  obtain ⟨q, p, v⟩ := t
  have g1 : p = 0 := congrArg Cs.px ht
  subst g1
  have g2 : v.m = u.m := (congrArg (fun t : Cs => t.u.m) ht).trans hu
  have gr : q = { s.r with pc := up1 s.r.pc, r := s.r.r / 128 * 128 + (s.r.r % 128 + 1) % 128 } := congrArg Cs.r ht
  have qh : q.h = r.h := by rw [gr, hr]
  have ql : q.l = r.l := by rw [gr, hr]
  have qd : q.d = r.d := by rw [gr, hr]
  have qe : q.e = r.e := by rw [gr, hr]
  have qb : q.b = r.b := by rw [gr, hr]
  have qc : q.c = r.c := by rw [gr, hr]
  have qpx : q.px = 0 := by rw [gr, hr]
  have qht : q.ht = false := by rw [gr, hr]; exact hh
  have qpc : q.pc = 2 := by rw [gr, hr]; show up1 (up1 r.pc) = 2; rw [hpc]; rfl
  have hL : Cs.lessV ⟨q, 0, v⟩ = dn1 (r.b * 256 + r.c) := by
    show dn1 (q.b * 256 + q.c) = _
    rw [qb, qc]
  have A := load_m q v
  have B := load_hl q v
  have C := load_de q v
  have D := load_bc q v
  have E := load_so q v
  rw [qh, ql, qd, qe, g2] at A
  rw [qh, ql] at B
  rw [qd, qe] at C
  rw [qb, qc] at D
  rw [qpx, qht, qpc] at E
  by_cases hz : dn1 (r.b * 256 + r.c) = 0
  · obtain ⟨m1, m2⟩ := many_off ⟨q, 0, v⟩ (hL.trans hz)
    rw [m1] at e1 e2
    rw [m2] at e3
    rw [← e1] at B C D E
    rw [← e2] at A
    exact ⟨A, B, C, D, E.1, E.2.1, fun h => absurd hz h, fun _ => ⟨E.2.2, e3⟩⟩
  · obtain ⟨m1, m2⟩ := many_on ⟨q, 0, v⟩ (fun h => hz (hL.symm.trans h))
    rw [m1] at e1 e2
    rw [m2] at e3
    have e5 : ((Cs.manyLoad ⟨q, 0, v⟩ 1).again 0).r = { (Cs.manyLoad ⟨q, 0, v⟩ 1).r with pc := dn1 (dn1 (Cs.manyLoad ⟨q, 0, v⟩ 1).r.pc), wz := up1 (dn1 (dn1 (Cs.manyLoad ⟨q, 0, v⟩ 1).r.pc)) } := rfl
    have e6 : ((Cs.manyLoad ⟨q, 0, v⟩ 1).again 0).u = (Cs.manyLoad ⟨q, 0, v⟩ 1).u := rfl
    rw [e5] at e1
    rw [e6] at e2
    rw [← e2] at A
    refine ⟨A, ?_, ?_, ?_, ?_, ?_, fun _ => ⟨?_, e3⟩, fun h => absurd h hz⟩
    · rw [e1]; exact B
    · rw [e1]; exact C
    · rw [e1]; exact D
    · rw [e1]; exact E.1
    · rw [e1]; exact E.2.1
    · rw [e1]
      show dn1 (dn1 (Cs.manyLoad ⟨q, 0, v⟩ 1).r.pc) = 0
      rw [E.2.2]; rfl
def cpy (m0 : Nat → Nat) (from_ to k : Nat) (i : Nat) : Nat := if to ≤ i ∧ i < to + k then m0 (from_ + (i - to)) else m0 i
def CpyAt (m0 : Nat → Nat) (from_ to many k clk : Nat) (r : Rg) (u : U) : Prop :=
  (∀ i, u.m i = cpy m0 from_ to k i) ∧ r.px = 0 ∧ r.ht = false ∧ r.h * 256 + r.l = from_ + k ∧ r.d * 256 + r.e = to + k ∧ r.b * 256 + r.c = many - k ∧ ((k < many ∧ r.pc = 0 ∧ clk = 21 * k) ∨ (k = many ∧ r.pc = 2 ∧ clk = 21 * many - 5))
theorem cpy_step (m0 : Nat → Nat) (from_ to many k clk : Nat) (r : Rg) (u : U) (hf : 4096 ≤ from_ ∧ from_ ≤ 16384) (ht : 20480 ≤ to ∧ to ≤ 61440) (hm : 1 ≤ many ∧ many ≤ 300) (hk : k < many) (h0 : m0 0 = 237) (h1 : m0 1 = 176) (h : CpyAt m0 from_ to many k clk r u) :
    CpyAt m0 from_ to many (k + 1) (clk + stepN r u) (stepR r u) (stepU r u) := by
  obtain ⟨hu, hpx, hht, hhl, hde, hbc, hpc⟩ := h
  have hpc' : r.pc = 0 ∧ clk = 21 * k := by
    rcases hpc with h | h
    · exact h.2
    · exact absurd h.1 (by omega)
  have L := ldir_once r u hpc'.1 hht (by rw [hu]; unfold cpy; rw [if_neg (by omega), h0]) (by rw [hu]; unfold cpy; rw [if_neg (by omega), h1])
  obtain ⟨Lm, Lhl, Lde, Lbc, Lpx, Lht, Lon, Loff⟩ := L
  rw [hhl] at Lhl Lm
  rw [hde] at Lde Lm
  rw [hbc] at Lbc Lon Loff
  have w1 : wMove (from_ + k) 1 = from_ + (k + 1) := by show (from_ + k + 1) % 65536 = _; omega
  have w2 : wMove (to + k) 1 = to + (k + 1) := by show (to + k + 1) % 65536 = _; omega
  have w3 : dn1 (many - k) = many - (k + 1) := by unfold dn1; omega
  rw [w1] at Lhl
  rw [w2] at Lde
  rw [w3] at Lbc Lon Loff
  refine ⟨fun i => ?_, Lpx, Lht, by rw [Lhl.1, Lhl.2]; exact Nat.div_add_mod' _ _, by rw [Lde.1, Lde.2]; exact Nat.div_add_mod' _ _, by rw [Lbc.1, Lbc.2]; exact Nat.div_add_mod' _ _, ?_⟩
  · have e : cpy m0 from_ to k (from_ + k) = m0 (from_ + k) := if_neg (by omega)
    have e' := (hu (from_ + k)).trans e
    rw [e'] at Lm
    rw [Lm]
    by_cases hi : i = to + k
    · rw [hi, upd_at]
      unfold cpy
      rw [if_pos (by omega), show from_ + (to + k - to) = from_ + k by omega]
    · rw [upd_ne _ _ _ _ hi, hu i]
      unfold cpy
      by_cases h2 : to ≤ i ∧ i < to + k
      · rw [if_pos h2, if_pos (by omega)]
      · rw [if_neg h2, if_neg (by omega)]
  · by_cases hl : k + 1 = many
    · obtain ⟨p1, p2⟩ := Loff (by omega)
      exact .inr ⟨hl, p1, by rw [p2, hpc'.2]; omega⟩
    · obtain ⟨p1, p2⟩ := Lon (by omega)
      exact .inl ⟨by omega, p1, by rw [p2, hpc'.2]; omega⟩
end Go.Proofs.YtljjgakfnajifaaGreatDoor
