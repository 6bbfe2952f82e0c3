import Derived.Test.YtgdeeiimkhjfiaaGreatDoorV18
set_option maxRecDepth 100000
set_option maxHeartbeats 6400000
namespace Go.Proofs.YtgdeeiimkhjfiaaGreatDoor
open Go.RowKit
section
variable {W0 w : World} {x b tq n c : Nat} {s : Cs} {ix : Bool} {pg : Int} {l : Zj}
theorem ZcF {P : Program} {ops : Array Oper} {rest : List Oper} {o : Oper} {a : Act} {Q : Exit → Act → World → Prop} {e : TypeId} {n : Nat} {cs : List Value} {vx vy : Value} (HM : Hid (Own W0 w l))
  {t : TypeId} {x y : Operand} (ho : o.op = .makeSlice t x y) (h1 : a.eval x = vx) (h2 : a.eval y = vy) (hx : ∀ w, (Instr.makeSlice t vx vy).run P w = .ok (.slice (some ⟨w.heap.size, 0, none⟩) n n) (w.alloc (.cells cs.toArray e))) (hw : Region.wanted o (yielded ops a.tmps) = true)
  (h : ∀ w' g, Hid (Own W0 w' ((g, e, cs) :: l)) → wpList P ops Q rest (a.put o.dst (.slice (some ⟨g, 0, none⟩) n n)) w') : wpList P ops Q (o :: rest) a w := by
 refine Zp hw fun K hK => ?_
 unfold Oper.wp execOp
 simp only [ho, Sem.run_bind, h1, h2]
 rw [hx]
 exact hK _ _ (h _ _ (HM.out.new e cs))
theorem ZcG (n : Nat) (h : n ≤ 2147483647) (w : World) : (Instr.makeSlice 26 (.int .i64 (n : Int)) (.int .i64 (n : Int))).run Tryz.prog w = .ok (.slice (some ⟨w.heap.size, 0, none⟩) n n) (w.alloc (.cells (List.replicate n (Value.int .u8 0)).toArray 5)) := by
 have hi : (Tryz.prog.info? 5).map (fun i => (i.zero, i.size, i.bytes)) = some (some (.int .u8 0), 1, 1) := by kernel_rfl
 obtain ⟨i0, hi, hz0, hz1, hz2⟩ : ∃ i : TypeInfo, Tryz.prog.info? 5 = some i ∧ i.zero = some (.int .u8 0) ∧ i.size = 1 ∧ i.bytes = 1 := by
  cases hq : Tryz.prog.info? 5 with
  | none => rw [hq] at hi; simp at hi
  | some i => rw [hq] at hi; simp at hi; exact ⟨i, rfl, hi.1, hi.2.1, hi.2.2⟩
 have hr := run_make (P := Tryz.prog) w 26 5 i0 (.int .u8 0) Tryz.underlying26 hi hz0 .i64 .i64 (n : Int) (n : Int) (by omega) (by omega) (by rw [hz2]; omega) (by omega)
 rw [hr]
 rw [Int.toNat_natCast, hz1, Nat.mul_one]
 congr 3
 apply Array.ext'
 rw [show (Value.int IntKind.u8 0).cells = #[Value.int IntKind.u8 0] from rfl, toList_madeCells_one]
theorem mem0 : Zz (fun _ => 0) = List.replicate 65536 (Value.int .u8 0) := by
 apply List.ext_getElem?
 intro i
 by_cases h : i < 65536
 ·rw [Y4 _ i h, List.getElem?_replicate, if_pos h]; rfl
 ·rw [List.getElem?_replicate, if_neg h, List.getElem?_eq_none (by rw [ZE]; omega)]
theorem ZeZ (w : World) : (Instr.makeSlice 26 (.int .i64 65536) (.int .i64 65536)).run Tryz.prog w = .ok (.slice (some ⟨w.heap.size, 0, none⟩) 65536 65536) (w.alloc (.cells (Zz fun _ => 0).toArray 5)) := by
 rw [mem0]
 exact ZcG 65536 (by omega) w
def part (f k i : Nat) : Nat := if i < k then bas f i else 0
theorem ZcH (f : Nat) : part f 0 = fun _ => 0 := by funext i; exact if_neg (by omega)
theorem ZcI (f k : Nat) : upd (part f k) k (bas f k) = part f (k + 1) := by
 funext i
 unfold upd part
 by_cases h : i = k
 ·rw [if_pos h, if_pos (by omega), h]
 ·rw [if_neg h]
  by_cases h2 : i < k
  ·rw [if_pos h2, if_pos (by omega)]
  ·rw [if_neg h2, if_neg (by omega)]
theorem W4 {m m' : Nat → Nat} (h : ∀ i, i < 65536 → m i = m' i) : Zz m = Zz m' := by
 unfold Zz
 apply List.map_congr_left
 intro i hi
 rw [h i (List.mem_range.1 hi)]
theorem jx (f : Nat) : Zz (part f 65536) = Zz (bas f) := W4 fun _ hi => if_pos hi
def ZcJ (W0 : World) (l : Zj) (a : Option Addr) (ys : List Nat) : Prop :=
 (∀ y ∈ ys, y < 256) ∧ (0 < ys.length → ∃ g o, a = some ⟨g, o, none⟩ ∧ ∀ w, Own W0 w l → ∀ (i y : Nat), ys[i]? = some y → w.cell? ⟨g, o + i, none⟩ = some (.int .u8 (y : Int)))
theorem Bx.new {b gm : Nat} {m : Nat → Nat} (h8 : ∀ i, m i < 256) (h : Own W0 w ((b, 39, [.slice (some ⟨gm, 0, none⟩) 65536 65536, .slice none 0 0]) :: (gm, 5, Zz m) :: l)) : Bx W0 w b ⟨m, []⟩ l 1000000 :=
 ⟨⟨h8, by show 0 + 1000000 ≤ 1000000; decide⟩, _, ⟨gm, .slice none 0 0, [], rfl, Yv.nil _ _⟩, h.perm (List.perm_append_comm (l₁ := [_, _]))⟩
theorem ZcK (v : Value) (hv : ∃ g N, v = .slice (some ⟨g, 0, none⟩) N N) (w : World) : (Instr.build 39 #[(0, v)]).run Tryz.prog w = .ok (.agg #[v, .slice none 0 0]) w := by
 obtain ⟨g, N, rfl⟩ := hv
 kernel_rfl
theorem ZcL (at_ f cap : Nat) (ys : List Nat) (a : Option Addr) (ha : at_ < 65536) (hl : ys.length ≤ 65536) (hR : Hid (ZcJ W0 l a ys)) (h : Hid (Own W0 w l)) :
  Calls Tryz.prog 7 #[.int .u16 (at_ : Int), .slice a ys.length cap, .int .u8 (f : Int)] w fun e w' => ∃ b, e = .returned (.pointer (some ⟨b, 0, none⟩)) ∧ Hid (Bx W0 w' b ⟨lay (bas f) at_ ys, []⟩ l 1000000) := by
 obtain ⟨N, hN⟩ : ∃ N : Nat, Hid (N = 65536) := ⟨_, rfl⟩
 have hmk : Hid (∀ w, (Instr.makeSlice 26 (.int .i64 65536) (.int .i64 65536)).run Tryz.prog w = .ok (.slice (some ⟨w.heap.size, 0, none⟩) N N) (w.alloc (.cells (Zz fun _ => 0).toArray 5))) := Zb (by rw [hN.out]; exact ZeZ)
 have hbx : Hid (∀ gm w, (Instr.build 39 #[(0, .slice (some ⟨gm, 0, none⟩) N N)]).run Tryz.prog w = .ok (.agg #[.slice (some ⟨gm, 0, none⟩) N N, .slice none 0 0]) w) := Zb (fun gm w => ZcK _ ⟨gm, N, rfl⟩ w)
 have hm8 := Zb (ZkQ (bas f) at_ ys (ZkP f) hR.out.1)
 have HA := Zb ha
 have HL := Zb hl
 obtain ⟨n, hn⟩ : ∃ n, Hid (ys.length = n) := ⟨_, rfl⟩
 have HM := h
 rw [hn.out]
 clear h hl ha
 go_enter Tryz.func7, Tryz.ntmps7
 go_upto_region 2 with (first | ((with_reducible apply ZcF (cs := Zz fun _ => 0) (e := 5) (n := N) HM); exact rfl; exact rfl; exact rfl; exact hmk.out; exact rfl; intro w' gm HM'; clear HM; have HM := HM'; clear HM'; have hb := hbx.out gm) | (refine a0 ?_; intro w' b HM'; clear HM; have HM := HM'; clear HM'))
 clear hb
 go_upto_region 3 with (first | (refine a0 ?_; clear HM; intro w' g' HM) | refine a48 ?_ | (refine a49 ?_; clear HM; intro w' HM))
 go_loopw [19] (fun i wr => ∃ k : Nat, k ≤ N ∧ i = .int .i64 (k : Int) ∧ Hid (Own W0 wr ((b, 39, [.slice (some ⟨gm, 0, none⟩) N N, .slice none 0 0]) :: (gm, 5, Zz (part f k)) :: l))) (fun i _ => N - (intOf i).toNat)
 case atStart => exact ⟨0, by omega, rfl, by rw [ZcH]; exact HM⟩
 case round =>
  obtain ⟨k, hk, rfl, HM⟩ := hrel
  by_cases hlt : k < N
  ·obtain ⟨p, hp⟩ : ∃ p : Nat, k % 256 = p := ⟨_, rfl⟩
   obtain ⟨d, hd⟩ : ∃ d : Nat, k / 256 = d := ⟨_, rfl⟩
   obtain ⟨q, hq⟩ : ∃ q : Nat, p * f % 256 = q := ⟨_, rfl⟩
   have hN' := hN.out
   have k1 : k < 65536 := by omega
   have HK := Zb k1
   have e0 : (k : Int) % 256 = (p : Int) := by omega
   have e1 : IntKind.u8.wrap ((p : Int) * (f : Int)) = (q : Int) := by show ((p : Int) * (f : Int)) % 256 = _; rw [← Int.natCast_mul]; omega
   have e2 : (k : Int) / 256 = (d : Int) := by omega
   have e3 : (d : Int) < 256 := by omega
   have hlt2 : (k : Int) < (N : Int) := by omega
   have ex : bits .xor .u8 (q : Int) (d : Int) = ((bas f k : Nat) : Int) := by
    rw [u8_xor _ _ (by omega) (by omega) (by omega) (by omega), Int.toNat_natCast, Int.toNat_natCast]
    unfold bas
    rw [hp, hq, hd, Nat.mod_eq_of_lt (show d < 256 by omega)]
    rfl
   have hk1 : (k : Int) < 65536 := by omega
   clear hp hd hq hN' k1 hk
   obtain ⟨B, hB⟩ : ∃ B, Hid (bas f k = B) := ⟨_, rfl⟩
   rw [hB.out] at ex
   go_wp2_with (first | (refine a0 ?_; clear HM; intro w' g' HM) | refine a48 ?_ | (refine a49 ?_; clear HM; intro w' HM) | ((with_reducible apply JK HM (v := .int .u8 (B : Int)) (cs := Zz (part f k))); exact rfl; exact rfl; exact rfl; exact .s .z; exact .s .z; exact oneU8.size; exact rfl; exact rfl; (rw [ZE]; exact HK.out); exact rfl; clear HM; intro w' HM))
   go_roundw
   case rel => exact ⟨k + 1, by omega, by go_num, by have h := HM.out; rw [Ju, ← hB.out, ZcI] at h; exact Zb h⟩
   case measure => simp [intOf]; omega
  ·obtain rfl : k = N := by omega
   have HM' : Hid (Own W0 wr ((b, 39, [.slice (some ⟨gm, 0, none⟩) k k, .slice none 0 0]) :: (gm, 5, Zz (lay (bas f) at_ (ys.take 0))) :: l)) := by
    have h := HM.out
    rw [show Zz (part f k) = Zz (bas f) by rw [hN.out]; exact jx f] at h
    exact Zb h
   clear HM; have HM := HM'; clear HM'
   clear hk hlt
   go_wp2_with fail
   go_loopw [39] (fun i wr => ∃ j : Nat, j ≤ n ∧ i = .int .i64 (j : Int) ∧ Hid (Own W0 wr ((b, 39, [.slice (some ⟨gm, 0, none⟩) k k, .slice none 0 0]) :: (gm, 5, Zz (lay (bas f) at_ (ys.take j))) :: l))) (fun i _ => n - (intOf i).toNat)
   case atStart => exact ⟨0, by omega, rfl, HM⟩
   case round =>
    obtain ⟨j, hj, rfl, HM⟩ := hrel
    have hn' := hn.out
    by_cases hlt : j < n
    ·obtain ⟨y, hy⟩ : ∃ y, ys[j]? = some y := ⟨_, List.getElem?_eq_getElem (by omega)⟩
     obtain ⟨g, o, rfl, hc⟩ := hR.out.2 (by omega)
     have y1 : y < 256 := hR.out.1 y (List.mem_of_getElem? hy)
     have hcj := hc wr HM.out.rest.rest j y hy
     obtain ⟨q, hq⟩ : ∃ q, Hid ((at_ + j) % 65536 = q) := ⟨_, rfl⟩
     have q1 : q < 65536 := by rw [← hq.out]; exact Nat.mod_lt _ (by decide)
     have HQ := Zb q1
     have hk' := hN.out
     have hL' := HL.out
     have j1 : (j : Int) < 65536 := by omega
     have hlt2 : (j : Int) < (n : Int) := by omega
     have e1 : IntKind.u16.wrap ((at_ : Int) + (j : Int)) = (q : Int) := by rw [← hq.out]; show ((at_ : Int) + (j : Int)) % 65536 = _; omega
     have qk : (q : Int) < (k : Int) := by omega
     have HY := Zb hy
     have hl' : (lay (bas f) at_ (ys.take (j + 1))) = upd (lay (bas f) at_ (ys.take j)) q y := by
      have e : ys.take (j + 1) = ys.take j ++ [y] := by rw [List.take_add_one, hy]; rfl
      rw [e, ZhZ _ _ _ _ HA.out, List.length_take, Nat.min_eq_left (by omega), hq.out]
     have HLY := Zb hl'
     clear hn' hy q1 hk' hL' hl' hj hc
     go_wp2_with (first | (refine a0 ?_; clear HM; intro w' g' HM) | refine a48 ?_ | (refine a49 ?_; clear HM; intro w' HM) | ((with_reducible apply JK HM (v := .int .u8 (y : Int)) (cs := Zz (lay (bas f) at_ (ys.take j)))); exact rfl; exact rfl; exact rfl; exact .s .z; exact .s .z; exact oneU8.size; exact rfl; exact rfl; (rw [ZE]; exact HQ.out); exact rfl; clear HM; intro w' HM))
     go_roundw
     case rel => exact ⟨j + 1, by omega, by go_num, by have h := HM.out; rw [Ju, ← HLY.out] at h; exact Zb h⟩
     case measure => simp [intOf]; omega
    ·obtain rfl : j = n := by omega
     have HM' : Hid (Own W0 wr ((b, 39, [.slice (some ⟨gm, 0, none⟩) k k, .slice none 0 0]) :: (gm, 5, Zz (lay (bas f) at_ ys)) :: l)) := by
      have h := HM.out
      rw [List.take_of_length_le (by omega)] at h
      exact Zb h
     clear HM; have HM := HM'; clear HM' hn' hj hlt
     go_wp2_with fail
     go_ret
     have hk' := hN.out
     subst hk'
     exact ⟨b, rfl, Zb (Bx.new hm8.out HM.out)⟩
def ZkS (r : Rg) (u : U) : Rg := (Cs.step ⟨r, 0, u⟩).r
def stepU (r : Rg) (u : U) : U := (Cs.step ⟨r, 0, u⟩).u
def ZkT (r : Rg) (u : U) : Nat := Cs.stepC ⟨r, 0, u⟩
-- prefixes
theorem ZcM (s : Cs) : s.fetched.r = { s.r with dl := false, px := 0, pc := up1 s.r.pc, r := s.r.r / 128 * 128 + (s.r.r % 128 + 1) % 128 } := rfl
theorem ZcN (s : Cs) : s.fetched.u.m = s.u.m := rfl
theorem Zaz (s : Cs) : s.fetched.px = s.r.px := rfl
theorem ZaA (r : Rg) (u : U) (o : Nat) (hm : u.m r.pc = o) (hh : r.ht = false) : ∃ s : Cs, s.r = { r with dl := false, px := 0, pc := up1 r.pc, r := r.r / 128 * 128 + (r.r % 128 + 1) % 128 } ∧ s.u.m = u.m ∧ s.px = r.px ∧ ZkS r u = (s.perform o).r ∧ (stepU r u).m = (s.perform o).u.m ∧ ZkT r u = s.performC o := by
 obtain ⟨e1, e2⟩ := Cs.step_eq ⟨r, 0, u⟩ o hm hh
 exact ⟨_, ZcM _, ZcN _, Zaz _, congrArg Cs.r e1, congrArg (fun s => s.u.m) e1, e2⟩
def Rg.base (r : Rg) : Rg := { r with pc := 0, r := 0, wz := 0, dl := false, px := 0, sp := 0, iy := 0 }
theorem ZcO {W0 : World} {g : Nat} {t : TypeId} (ys : List Nat) (h8 : ∀ y ∈ ys, y < 256) : ZcJ W0 ((g, t, ys.map fun y : Nat => .int .u8 (y : Int)) :: l) (some ⟨g, 0, none⟩) ys := by
 refine ⟨h8, fun _ => ⟨g, 0, rfl, fun w hw i y hy => ?_⟩⟩
 refine hw.cells_at .z _ _ ?_
 rw [Nat.zero_add, List.getElem?_map, hy]
 rfl
theorem ZcP {g : Nat} (h : Hid (Own W0 w ((g, 5, [.int .u8 62, .int .u8 5]) :: l))) :
  Calls Tryz.prog 7 #[.int .u16 100, .slice (some ⟨g, 0, none⟩) 2 2, .int .u8 0] w fun e w' => ∃ b, e = .returned (.pointer (some ⟨b, 0, none⟩)) ∧ Hid (Bx W0 w' b ⟨lay (bas 0) 100 [62, 5], []⟩ ((g, 5, [.int .u8 62, .int .u8 5]) :: l) 1000000) :=
 ZcL 100 0 2 [62, 5] _ (by decide) (by decide) (Zb (ZcO [62, 5] (by decide))) h
theorem VT (w : World) : (Instr.buildSlice 26 2 #[(0, .int .u8 62), (1, .int .u8 5)]).run Tryz.prog w = .ok (.slice (some ⟨w.heap.size, 0, none⟩) 2 2) (w.alloc (.cells ([.int .u8 62, .int .u8 5] : List Value).toArray 5)) := by kernel_rfl
def rgP : Rg := { rg0 with pc := 100 }
def rgQ : Rg := { rg0 with a := 5, pc := 102, r := 1 }
theorem rg0_fits : rg0.Fits := ⟨by decide, by decide, by decide, by decide, by decide, by decide, by decide, by decide, by decide, by decide, by decide, by decide, by decide, by decide, by decide, by decide, by decide, by decide, by decide, by decide, by decide, by decide, by decide, by decide, by decide⟩
theorem rgP_fits : rgP.Fits := { rg0_fits with pc := (by decide) }
theorem Zh5 (f a x y : Nat) (ha : a + 1 < 65536) : lay (bas f) a [x, y] a = x ∧ lay (bas f) a [x, y] (a + 1) = y := by
 refine ⟨?_, ?_⟩
 ·rw [ZgB _ _ _ _ (by omega) (by omega) (by simp), show (a + 65536 - a) % 65536 = 0 by omega]; rfl
 ·rw [ZgB _ _ _ _ (by omega) (by omega) (by simp), show (a + 1 + 65536 - a) % 65536 = 1 by omega]; rfl
theorem ZkU (s : Cs) : s.perform 62 = s.next.setOne 7 s.nextV ∧ s.performC 62 = 7 := ⟨rfl, rfl⟩
theorem ZaB (u : U) (h0 : u.m 100 = 62) (h1 : u.m 101 = 5) : ZkS rgP u = rgQ ∧ ZkT rgP u = 7 := by
 obtain ⟨s, hr, hu, -, e1, -, e3⟩ := ZaA rgP u 62 h0 rfl
 obtain ⟨d1, d2⟩ := ZkU s
 have e4 : s.nextV = 5 := by
  show s.u.m s.r.pc = 5
  rw [hu, hr]; exact h1
 rw [d1, e4] at e1
 rw [d2] at e3
 refine ⟨?_, e3⟩
 rw [e1]
 show { s.r with pc := up1 s.r.pc, a := 5 } = rgQ
 rw [hr]
 rfl
theorem ZaC (hT : Hid (Tabs W0)) (h : Hid (Bx W0 w b ⟨lay (bas 0) 100 [62, 5], []⟩ l (n + 6))) :
  CX 9 #[rgP.v, .iface 29 (.pointer (some ⟨b, 0, none⟩))] w (.tuple #[rgQ.v, .int .i64 7]) fun w' => ∃ u, Hid (Bx W0 w' b u l n) := by
 obtain ⟨h0, h1⟩ := Zh5 0 100 62 5 (by decide)
 obtain ⟨e1, e2⟩ := ZaB ⟨lay (bas 0) 100 [62, 5], []⟩ h0 h1
 refine (yI hT rgP _ rgP_fits h).mono fun e w' ⟨he, _, hb⟩ => ⟨?_, _, hb⟩
 rw [he]
 have e1' : (Cs.step ⟨rgP, 0, ⟨lay (bas 0) 100 [62, 5], []⟩⟩).r = rgQ := e1
 have e2' : Cs.stepC ⟨rgP, 0, ⟨lay (bas 0) 100 [62, 5], []⟩⟩ = 7 := e2
 rw [e1', e2']
 rfl
theorem Zh6 (w : World) : (Instr.build 25 #[(12, .int .u16 100)]).run Tryz.prog w = .ok rgP.v w := by kernel_rfl
theorem ZkV (w : World) : (Op.equalIn 10000 25 (.agg (rgQ).cells.toArray) (.agg #[.int .u8 5, .int .u8 0, .int .u8 0, .int .u8 0, .int .u8 0, .int .u8 0, .int .u8 0, .int .u8 0, .int .u8 0, .int .u8 0, .int .u8 0, .int .u8 0, .int .u8 0, .int .u8 0, .int .u8 0, .int .u8 0, .int .u16 0, .int .u16 0, .int .u16 0, .int .u16 102, .int .u16 0, .int .u8 0, .int .u8 1, .int .u8 0, .int .u8 0, .bool false, .bool false, .bool false, .bool false])).run Tryz.prog w = .ok true w := Rg.same rgQ w
theorem KO (w : World) (hT : Tabs w) : CB 5 #[] w (.bool true) := by
 have HT := Zb hT
 clear hT
 have ES := ZkV
 have HM := Zb (Own.start w)
 go_enter Tryz.func5, Tryz.ntmps5
 go_upto_region 2 with (first | ((with_reducible apply Yc (cs := [.int .u8 62, .int .u8 5]) (e := 5) (n := 2) HM); exact rfl; exact VT; (focus (go_simp; done)); exact rfl; clear HM; intro w' g' HM) | ((with_reducible apply Ua Zh6); exact rfl; exact rfl; exact rfl) | (go_at_call 7; (with_reducible refine (ZcP HM).mono ?_); rintro e w' ⟨b, rfl, hB⟩; obtain ⟨hg, X, hX, hO⟩ := hB.out; simp only [List.cons_append, List.nil_append] at hO; have HG := Zb hg; have HX := Zb hX; have HM' := Zb hO; clear hg hX hO hB HM; have HM := HM'; clear HM') | (go_at_call 9; have hbx : Hid (Bx _ _ b _ [_] _) := Zb ⟨HG.out, X, HX.out, HM.out⟩; (with_reducible refine (ZaC HT hbx).mono ?_); clear hbx; rintro e w' ⟨rfl, u, hB⟩; obtain ⟨hg, X', hX, hO⟩ := hB.out; simp only [List.cons_append, List.nil_append] at hO; have HG' := Zb hg; have HX' := Zb hX; have HM' := Zb hO; clear hg hX hO hB; clear HM HG HX; have HM := HM'; have HG := HG'; have HX := HX'; clear HM' HG' HX') | (refine a8 ?_; clear HM; intro w' g' HM) | (refine a7 ?_; clear HM; intro w' HM))
 exact k1
theorem Bx.hid2 {u : U} {e e' : Nat × TypeId × List Value} (h : Bx W0 w b u [e, e'] n) : ∃ _ : Hid (u.Good n), ∃ X, ∃ _ : Hid (JV X b u), Hid (Own W0 w (e :: e' :: X)) := by
 obtain ⟨hg, X, hX, hO⟩ := h
 exact ⟨hg, X, hX, hO⟩
def yJ (X : Zj) (b : Nat) (u : U) : Prop :=
 ∃ gm lv R av Ra na xs, X = (b, 43, [.slice (some ⟨gm, 0, none⟩) 65536 65536, .pointer none, lv, .bool false, .int .u8 0, av]) :: (gm, 5, Zz u.m) :: (R ++ Ra) ∧ Yv 3 1 R lv u.g.length (zE u.g) ∧ (na ≤ u.g.length ∧ Yv 155 4 Ra av na xs)
structure Fx (W0 w : World) (b : Nat) (u : U) (l : Zj) (n : Nat) : Prop where
 good : u.Good n
 own : ∃ X, yJ X b u ∧ Own W0 w (l ++ X)
section
variable {W0 w w' : World} {b n k : Nat} {u : U} {l l' : Zj}
theorem Fx.perm (h : Fx W0 w b u l n) (hp : l.Perm l') : Fx W0 w b u l' n := by
 obtain ⟨hg, X, hX, hO⟩ := h
 exact ⟨hg, X, hX, hO.perm (hp.append_right X)⟩
theorem Fx.less (h : Fx W0 w b u l n) (hk : k ≤ n) : Fx W0 w b u l k := ⟨h.good.less hk, h.own⟩
theorem Fx.call (h : Fx W0 w b u l n) (hb : Below w.heap.size w w') : Fx W0 w' b u l n := by
 obtain ⟨hg, X, hX, hO⟩ := h
 exact ⟨hg, X, hX, hO.call hb⟩
theorem Fx.drop {e : Nat × TypeId × List Value} (h : Fx W0 w b u (e :: l) n) : Fx W0 w b u l n := by
 obtain ⟨hg, X, hX, hO⟩ := h
 exact ⟨hg, X, hX, hO.forget⟩
end
theorem Fx.out {m : Nat → Nat} {g : List Int} (h : Fx W0 w b ⟨m, g⟩ l (n + 1)) :
  (∀ i, m i < 256) ∧ g.length + 1 + n ≤ 1000000 ∧ ∃ gm lv R N av Ra na xs, N = 65536 ∧ Yv 3 1 R lv g.length (zE g) ∧ (na ≤ g.length ∧ Yv 155 4 Ra av na xs) ∧ Own W0 w ((b, 43, [.slice (some ⟨gm, 0, none⟩) N N, .pointer none, lv, .bool false, .int .u8 0, av]) :: (gm, 5, Zz m) :: (R ++ (Ra ++ l))) := by
 obtain ⟨⟨h8, hl⟩, X, ⟨gm, lv, R, av, Ra, na, xs, rfl, hR, hA⟩, hO⟩ := h
 have hl' : g.length + (n + 1) ≤ 1000000 := hl
 refine ⟨h8, by omega, gm, lv, R, 65536, av, Ra, na, xs, rfl, hR, hA, hO.perm ?_⟩
 refine List.perm_append_comm.trans ?_
 simp only [List.cons_append, List.append_assoc]
 exact .refl _
theorem Fx.back {b n gm N na : Nat} {m : Nat → Nat} {g : List Int} {l R Ra : Zj} {lv av : Value} {xs : List Value} (h8 : ∀ i, m i < 256) (hl : g.length + n ≤ 1000000) (hN : N = 65536) (hR : Yv 3 1 R lv g.length (zE g)) (hA : na ≤ g.length ∧ Yv 155 4 Ra av na xs)
  (h : Own W0 w ((b, 43, [.slice (some ⟨gm, 0, none⟩) N N, .pointer none, lv, .bool false, .int .u8 0, av]) :: (gm, 5, Zz m) :: ((Ra ++ l) ++ R))) : Fx W0 w b ⟨m, g⟩ l n := by
 subst hN
 refine ⟨⟨h8, hl⟩, _, ⟨gm, lv, R, av, Ra, na, xs, rfl, hR, hA⟩, h.perm ?_⟩
 refine List.Perm.trans ?_ List.perm_append_comm
 simp only [List.cons_append]
 refine .cons _ (.cons _ ?_)
 exact List.perm_append_comm.trans (by rw [List.append_assoc])
theorem yK {na : Nat} {g : List Int} {x : Int} {p : Prop} (h : na ≤ g.length ∧ p) : na ≤ (g ++ [x]).length ∧ p := ⟨by rw [List.length_append]; exact Nat.le_add_right_of_le h.1, h.2⟩
theorem JA {g n : Nat} (w : World) : (binOp .neq 26 (.slice (some ⟨g, 0, none⟩) n n) (.slice none 0 0)).run Tryz.prog w = .ok (.bool true) w := by kernel_rfl
theorem ZcQ {u : U} (a : Nat) (ha : a < 65536) (h : Hid (Fx W0 w b u l (n + 1))) :
  CX 36 #[.pointer (some ⟨b, 0, none⟩), .int .u16 (a : Int)] w (.int .u8 (u.m a : Int)) fun w' => Hid (Fx W0 w' b (u.rd a) l n) := by
 obtain ⟨m, g⟩ := u
 obtain ⟨h8, hl, gm, lv, R, N, av, Ra, na, xs, hN, hR, hAs, hO⟩ := h.out.out
 have H8 := Zb h8
 have HR := Zb hR
 have HAS := Zb hAs
 have HM := Zb hO
 have HNN := Zb hN
 have HN : Hid (g.length + 1 ≤ 1000000) := Zb (by omega)
 have HL := Zb hl
 have hsn := @JA gm N
 have HA := Zb ha
 have ha2 : (a : Int) < 65536 := by omega
 have ha4 : (a : Int) < (N : Int) := by omega
 clear ha
 clear h h8 hR hO hl hN hAs
 have tg1 : Hid True := trivial
 go_enter Tryz.func36, Tryz.ntmps36
 go_wp2_with (first | (refine a0 ?_; (first | (clear tg1 HM; intro w' g1 HM) | (clear HM; intro w' g' HM))) | refine b11 ?_ | (refine a57 ?_; clear HM; intro w' HM) | (refine a65 ?_; clear tg1; intro w' g1 HM'; clear HM; have HM := HM'; clear HM') | (refine Y7 (x := (a : Int)) (L := _ :: _ :: (Ra ++ l)) HM (((List.perm_append_comm.cons _).cons _).cons _) HR HN rfl rfl rfl rfl ?_; intro gg cap w1 R1 HR' HM'; clear HM HR; have HM : Hid (Own W0 w1 (_ :: _ :: ((Ra ++ l) ++ R1))) := HM'; have HR := HR'; clear HM' HR'))
 go_ret
 exact ⟨rfl, Fx.back H8.out (n := n) (Ji HL.out) HNN.out HR.out (yK HAS.out) HM.out⟩
theorem ZaD {u : U} (a v : Nat) (ha : a < 65536) (hv : v < 256) (h : Hid (Fx W0 w b u l (n + 1))) :
  CX 59 #[.pointer (some ⟨b, 0, none⟩), .int .u16 (a : Int), .int .u8 (v : Int)] w (.tuple #[]) fun w' => Hid (Fx W0 w' b (u.wr a v) l n) := by
 obtain ⟨m, g⟩ := u
 obtain ⟨h8, hl, gm, lv, R, N, av, Ra, na, xs, hN, hR, hAs, hO⟩ := h.out.out
 have H8 := Zb h8
 have HR := Zb hR
 have HAS := Zb hAs
 have HM := Zb hO
 have HNN := Zb hN
 have HN : Hid (g.length + 1 ≤ 1000000) := Zb (by omega)
 have HL := Zb hl
 have hsn := @JA gm N
 have HA := Zb ha
 have ha2 : (a : Int) < 65536 := by omega
 have ha4 : (a : Int) < (N : Int) := by omega
 clear ha
 have HV := Zb hv
 have hv2 : (v : Int) < 256 := by omega
 clear hv
 clear h h8 hR hO hl hN hAs
 have tg1 : Hid True := trivial
 go_enter Tryz.func59, Tryz.ntmps59
 go_upto_region 1 with (first | (refine a0 ?_; (first | (clear tg1 HM; intro w' g1 HM) | (clear HM; intro w' g' HM))) | refine a56 ?_ | (refine a57 ?_; clear HM; intro w' HM) | (refine a55 ?_; clear tg1; intro w' g1 HM'; clear HM; have HM := HM'; clear HM') | (refine Y7 (x := (1000000 + (a : Int) * 256 + (v : Int))) (L := _ :: _ :: (Ra ++ l)) HM (((List.perm_append_comm.cons _).cons _).cons _) HR HN rfl rfl rfl rfl ?_; intro gg cap w1 R1 HR' HM'; clear HM HR; have HM : Hid (Own W0 w1 (_ :: _ :: ((Ra ++ l) ++ R1))) := HM'; have HR := HR'; clear HM' HR') | ((with_reducible apply JK HM (v := .int .u8 (v : Int)) (cs := Zz m)); exact rfl; exact rfl; exact rfl; exact .s .z; exact .s .z; exact oneU8.size; exact rfl; exact rfl; (rw [ZE]; exact HA.out); exact rfl; clear HM; intro w' HM))
 clear ha2
 go_wp2_with (first | (refine a0 ?_; (first | (clear tg1 HM; intro w' g1 HM) | (clear HM; intro w' g' HM))) | refine a56 ?_ | (refine a57 ?_; clear HM; intro w' HM) | (refine a55 ?_; clear tg1; intro w' g1 HM'; clear HM; have HM := HM'; clear HM') | (refine Y7 (x := (1000000 + (a : Int) * 256 + (v : Int))) (L := _ :: _ :: (Ra ++ l)) HM (((List.perm_append_comm.cons _).cons _).cons _) HR HN rfl rfl rfl rfl ?_; intro gg cap w1 R1 HR' HM'; clear HM HR; have HM : Hid (Own W0 w1 (_ :: _ :: ((Ra ++ l) ++ R1))) := HM'; have HR := HR'; clear HM' HR') | ((with_reducible apply JK HM (v := .int .u8 (v : Int)) (cs := Zz m)); exact rfl; exact rfl; exact rfl; exact .s .z; exact .s .z; exact oneU8.size; exact rfl; exact rfl; (rw [ZE]; exact HA.out); exact rfl; clear HM; intro w' HM))
 (try simp only [Exit.inBlock, Exit.then])
 refine bodyPost_ret (results_none rfl _ _ _) rfl ?_
 exact ⟨rfl, Fx.back (Zbl H8.out a v HV.out) (n := n) (Ji HL.out) HNN.out HR.out (yK HAS.out) (Ju m a v ▸ HM.out)⟩
end
end Go.Proofs.YtgdeeiimkhjfiaaGreatDoor
