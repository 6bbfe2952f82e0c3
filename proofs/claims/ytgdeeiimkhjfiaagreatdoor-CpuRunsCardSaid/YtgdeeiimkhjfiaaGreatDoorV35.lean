import Derived.Test.YtgdeeiimkhjfiaaGreatDoorV34
set_option maxRecDepth 100000
set_option maxHeartbeats 6400000
namespace Go.Proofs.YtgdeeiimkhjfiaaGreatDoor
open Go.RowKit
section
variable {W0 w : World} {x b tq n c : Nat} {s : Cs} {ix : Bool} {pg : Int} {l : Zj}
theorem Ex.drew (h : Ex W0 w x b s tq ix pg l n) : Ex W0 w.drew x b s tq ix pg l n := by
 obtain ⟨hf, hg, X, hX, hO⟩ := h
 exact ⟨hf, hg, X, hX, hO.drew⟩
theorem Ex.cell (h : Hid (Ex W0 w x b s tq ix pg l n)) (i : Nat) (v : Value) (hv : (xc s b tq ix pg)[i]? = some v) : w.cell? ⟨x, i, none⟩ = some v := by
 obtain ⟨hf, hg, X, hX, hO⟩ := h.out
 exact hO.cells_at .z i v hv
theorem Ex.drop2 {e : Nat × TypeId × List Value} (h : Ex W0 w x b s tq ix pg (e :: l) n) : Ex W0 w x b s tq ix pg l n := by
 obtain ⟨hf, hg, X, hX, hO⟩ := h
 exact ⟨hf, hg, X, hX, (hO.perm (List.Perm.swap _ _ _)).forget⟩
section
variable {P : Program} {W0 w : World} {x b tq n : Nat} {s : Cs} {ix : Bool} {pg : Int} {l : Zj} {ops : Array Oper} {rest : List Oper} {o : Oper} {a : Act} {Q : Exit → Act → World → Prop}
theorem ZdD {e : TypeId} {k : Nat} {cs : List Value} (H : Hid (Ex W0 w x b s tq ix pg l n)) {t : TypeId} {parts : Array (Nat × Operand)} (ho : o.op = .buildSlice t k parts) {parts' : Array (Nat × Value)} (hx : ∀ w, (Instr.buildSlice t k parts').run P w = .ok (.slice (some ⟨w.heap.size, 0, none⟩) k k) (w.alloc (.cells cs.toArray e))) (hp : (parts.map fun (i, x) => (i, a.eval x)) = parts') (hw : Region.wanted o (yielded ops a.tmps) = true)
  (h : ∀ w' g, Hid (Ex W0 w' x b s tq ix pg ((g, e, cs) :: l) n) → wpList P ops Q rest (a.put o.dst (.slice (some ⟨g, 0, none⟩) k k)) w') : wpList P ops Q (o :: rest) a w := by
 obtain ⟨HF, HG, X, HX, HM⟩ := H.out.hid
 refine Yc HM ho hx hp hw fun w' g HM' => h w' g ?_
 exact Zb ⟨HF.out, HG.out, X, HX.out, HM'.out.perm (List.Perm.swap _ _ _)⟩
theorem xget2 {ty t : TypeId} {p : Operand} {g i : Nat} {cs : List Value} {v : Value} (H : Hid (Ex W0 w x b s tq ix pg ((g, t, cs) :: l) n)) (ho : o.op = .load ty p) (hx : a.eval p = .pointer (some ⟨g, i, none⟩)) (hty : One P ty) (hd : cs[i]? = some v) (hw : Region.wanted o (yielded ops a.tmps) = true)
  (k : wpList P ops Q rest (a.put o.dst v) w) : wpList P ops Q (o :: rest) a w := by
 obtain ⟨HF, HG, X, HX, HM⟩ := H.out.hid
 exact Yr HM ho hx hty (.s .z) hd hw k
end
def suT : List Tx := [[65, 68, 68], [65, 68, 67], [83, 85, 66], [83, 66, 67], [65, 78, 68], [88, 79, 82], [79, 82], [67, 80]]
theorem Zi3 (w : World) : (Instr.buildSlice 80 8 #[(0, .string ⟨#[65, 68, 68]⟩), (1, .string ⟨#[65, 68, 67]⟩), (2, .string ⟨#[83, 85, 66]⟩), (3, .string ⟨#[83, 66, 67]⟩), (4, .string ⟨#[65, 78, 68]⟩), (5, .string ⟨#[88, 79, 82]⟩), (6, .string ⟨#[79, 82]⟩), (7, .string ⟨#[67, 80]⟩)]).run Tryz.prog w = .ok (.slice (some ⟨w.heap.size, 0, none⟩) 8 8) (w.alloc (.cells (suT.map fun t => Value.string ⟨t.toArray⟩).toArray 9)) := by kernel_rfl
theorem jP (k : Nat) (hk : k < 8) : (suT.map fun t => Value.string ⟨t.toArray⟩)[k]? = some (.string ⟨(suT.getD k []).toArray⟩) := by
 rw [List.getElem?_map, List.getElem?_eq_getElem (show k < suT.length from hk), List.getD_eq_getElem?_getD, List.getElem?_eq_getElem (show k < suT.length from hk)]; rfl
theorem su_ne : ∀ j, j < 8 → ∀ k, k < 8 → ¬ j = k → (suT.getD j [] == suT.getD k []) = false := by decide
theorem su_self : ∀ k, k < 8 → (suT.getD k [] == suT.getD k []) = true := by decide
theorem Zi4 {x b tq : Nat} {L : Zj} {t : Tx} {g : Rg → Nat} {st : Rg → Nat → Rg} (hN : Nm t g st 256) (utn : (t == [110]) = false) (utHL : (t == [40, 72, 76, 41]) = false) (utIX : (t == [40, 73, 88, 43, 100, 41]) = false) (utIY : (t == [40, 73, 89, 43, 100, 41]) = false) (utBC : (t == [40, 66, 67, 41]) = false) (utDE : (t == [40, 68, 69, 41]) = false)  (v : Nat) (hv : Hid (g s.r = v)) (hF : s.r.Fits) (HQ : Hid (Own W0 w ((x, 58, xc s b tq ix pg) :: L))) :
  CB 88 #[.pointer (some ⟨x, 0, none⟩), .string ⟨t.toArray⟩] w (.int .u8 (v : Int)) := by
 have v8 : v < 256 := by rw [← hv.out]; exact hN.lt _ hF
 have HM := Zb (Own.start w)
 go_enter Tryz.func88, Tryz.ntmps88
 go_wp2_with (first | (go_at_call 90; (with_reducible refine (YW _ utHL utIX utIY _).mono ?_); rintro e w' ⟨rfl, rfl⟩) | (go_at_call 22; have hq := Zb (HQ.out.call (Own.fin HM)); (with_reducible refine (VE hN v hv hF hq).mono ?_); clear hq; rintro e w' ⟨rfl, hb⟩; replace HM := Zb (HM.out.call hb); clear hb))
 go_ret
 exact ⟨rfl, Own.fin HM⟩
theorem k7 {P : Prop} (h : P := by
 go_enter Tryz.func47, Tryz.ntmps47
 go_upto_region 23 with (first | (go_at_call 91; (with_reducible refine (KX _ _ hP _).mono ?_); rintro e w' ⟨rfl, hb⟩; replace H := Zb (H.out.call hb); clear hb) | (refine a35 ?_; clear H; intro w' g1 H) | fail)
 go_loopw [112] (fun i wr => ∃ k : Nat, k ≤ op ∧ i = .int .i64 (k : Int) ∧ Hid (Ex W0 wr x b s tq ix pg ((g1, 9, suT.map fun t => Value.string ⟨t.toArray⟩) :: l) n)) (fun i _ => op - (intOf i).toNat)
 case atStart => exact ⟨0, by omega, rfl, H⟩
 case round =>
  clear H
  obtain ⟨k, hk, rfl, H⟩ := hrel
  have hlt' : (k : Int) < 8 := by omega
  obtain ⟨m', hm'⟩ : ∃ m, suT.getD k [] = m := ⟨_, rfl⟩
  have HMk := Zb (jP k (by omega))
  rw [hm'] at HMk
  by_cases hlt : k < op
  ·have hqm : (m' == m) = false := by rw [← hm', ← hm.out]; exact su_ne k (by omega) op hop (by omega)
   go_wp2_with (first | refine a27 ?_ | fail)
   go_roundw
   case rel => exact ⟨k + 1, by omega, by go_num, H⟩
   case measure => simp [intOf]; omega
  ·obtain rfl : k = op := by omega
   have hqm : (m' == m) = true := by rw [← hm', ← hm.out]; exact su_self k hop
   go_upto_region 26 with (first | refine a27 ?_ | fail)
   obtain ⟨HF, HG, X, HX, HM⟩ := H.out.hid
   (refine Zo HM (by kernel_rfl) (by kernel_rfl) ?_; (try simp only [Act.put, Ze, Zc, Zd]); repeat ((fail_if_success (with_reducible refine wpQuiet_nil ?_)); first | go_big_quiet_skip | (go_big_quiet_want; first | (refine a17 ?_; go_big_quiet_op; go_big_quiet_on) | (refine a18 ?_; go_big_quiet_op; go_big_quiet_on) | ((with_reducible apply Zh); exact fun w => rfl; (focus (go_simp; all_goals with_reducible rfl)); (intro wq HQ; first | (with_reducible exact Zi4 hN uthn uthHL uthIX uthIY uthBC uthDE v hv HF.out HQ) | (with_reducible exact Zdw (k : Int) k a v f p y op8 a8 v8 f8 hp hy _)); go_big_quiet_op; go_big_quiet_on) | (go_big_quiet_op; go_big_quiet_on) | (go_big_quiet_op; refine ⟨_, fun _ _ => rfl, ?_⟩; go_big_quiet_on))))
   refine wpQuiet_nil ?_
   intro w' HM'
   clear H
   have H := Zb (Ex.made HM'.out HG.out HX.out HF.out)
   clear HM HM' HF HG HX
   go_wp2_with (first | (refine a2 ?_; clear H; intro w' H) | (go_at_call 89; (with_reducible refine (Uc th _ _ _ uthHL uthIX uthIY H).mono ?_); clear H; rintro e w' ⟨rfl, H⟩) | fail)
   go_ret
   exact ⟨rfl, Zb H.out.drop2⟩) : P := h
theorem ZgK {t u : Tx} {g : Rg → Nat} {st : Rg → Nat → Rg} {th : Tx} (hN : Nm th g st 256) (hUth : Un th) (op : Nat) (hop : op < 8) (m : Tx) (hm : Hid (suT.getD op [] = m)) (a f : Nat) (ha : Hid (s.r.a = a)) (hf : Hid (s.r.f = f)) (v p y : Nat) (hp : Hid (Zeb op a v f = p)) (hy : Hid (Zec op a v f = y)) (B : Bool) (hB : (u == []) = B) (hP : Hid (Jn t = false)) (hth : th = cond B t u) (hv : Hid (g s.r = v)) (H : Hid (Ex W0 w x b s tq ix pg l n)) :
  CX 47 #[.pointer (some ⟨x, 0, none⟩), .string ⟨m.toArray⟩, .string ⟨t.toArray⟩, .string ⟨u.toArray⟩] w (.int .i64 4) fun w' => Hid (Ex W0 w' x b ((s.setA p).setF y) tq ix pg l n) := by
 have uthNN := hUth [40, 110, 110, 41] (by decide)
 have uthSP := hUth [83, 80] (by decide)
 have uthI := hUth [73] (by decide)
 have uthR := hUth [82] (by decide)
 have uthBC := hUth [40, 66, 67, 41] (by decide)
 have uthDE := hUth [40, 68, 69, 41] (by decide)
 have uthHL := hUth [40, 72, 76, 41] (by decide)
 have uthIX := hUth [40, 73, 88, 43, 100, 41] (by decide)
 have uthIY := hUth [40, 73, 89, 43, 100, 41] (by decide)
 have uthn := hUth [110] (by decide)
 have uthnn := hUth [110, 110] (by decide)
 have v8 : v < 256 := by rw [← hv.out]; exact hN.lt _ H.out.fits
 have a8 : a < 256 := by rw [← ha.out]; exact H.out.fits.a
 have f8 : f < 256 := by rw [← hf.out]; exact H.out.fits.f
 have ha0 := ha.out
 have hf0 := hf.out
 have p8 : p < 256 := by rw [← hp.out]; exact Up _ _ _ _ hop a8 v8
 have y8 : y < 256 := by rw [← hy.out]; exact Uq _ _ _ _ hop
 have op8 : (op : Int) % 8 = (op : Int) := by omega
 cases B
 ·obtain rfl : th = u := hth
  exact k7
 ·obtain rfl : th = t := hth
  exact k7
theorem k4 {P : Prop} (h : P := by
 go_enter Tryz.func47, Tryz.ntmps47
 go_upto_region 23 with (first | (go_at_call 91; (with_reducible refine (KX _ _ hP _).mono ?_); rintro e w' ⟨rfl, hb⟩; replace H := Zb (H.out.call hb); clear hb) | (refine a35 ?_; clear H; intro w' g1 H) | fail)
 go_loopw [112] (fun i wr => ∃ k : Nat, k ≤ op ∧ i = .int .i64 (k : Int) ∧ Hid (Ex W0 wr x b s tq ix pg ((g1, 9, suT.map fun t => Value.string ⟨t.toArray⟩) :: l) (n + 1))) (fun i _ => op - (intOf i).toNat)
 case atStart => exact ⟨0, by omega, rfl, H⟩
 case round =>
  clear H
  obtain ⟨k, hk, rfl, H⟩ := hrel
  have hlt' : (k : Int) < 8 := by omega
  obtain ⟨m', hm'⟩ : ∃ m, suT.getD k [] = m := ⟨_, rfl⟩
  have HMk := Zb (jP k (by omega))
  rw [hm'] at HMk
  by_cases hlt : k < op
  ·have hqm : (m' == m) = false := by rw [← hm', ← hm.out]; exact su_ne k (by omega) op hop (by omega)
   go_wp2_with (first | refine a27 ?_ | fail)
   go_roundw
   case rel => exact ⟨k + 1, by omega, by go_num, H⟩
   case measure => simp [intOf]; omega
  ·obtain rfl : k = op := by omega
   have hqm : (m' == m) = true := by rw [← hm', ← hm.out]; exact su_self k hop
   go_upto_region 26 with (first | refine a27 ?_ | fail)
   have H := Zb H.out.drew
   have c0 := Ex.cell H 0 _ rfl
   have c1 := Ex.cell H 1 _ rfl
   rw [show s.r.a = a from ha0] at c0
   rw [show s.r.f = f from hf0] at c1
   go_region_held3 (fun w' => w'.cell? ⟨x, 0, none⟩ = some (.int .u8 (a : Int)) ∧ w'.cell? ⟨x, 1, none⟩ = some (.int .u8 (f : Int))) (first | assumption | (simp only [*]; trivial) | simp [*]) (first | (go_at_call 88; (with_reducible refine (Jm _ hMth v s1 hq hv hs1 H).mono ?_); clear H; rintro e w' ⟨rfl, _, H⟩; have d0 : w'.cell? ⟨x, 0, none⟩ = some (.int .u8 (a : Int)) := (by have hh := Ex.cell H 0 _ rfl; rw [show s1.r.a = _ from ha1] at hh; exact hh); have d1 : w'.cell? ⟨x, 1, none⟩ = some (.int .u8 (f : Int)) := (by have hh := Ex.cell H 1 _ rfl; rw [show s1.r.f = _ from hf1] at hh; exact hh)) | (go_at_call 97; (with_reducible refine (Zdw (k : Int) k a v f p y op8 a8 v8 f8 hp hy _).mono ?_); rintro e w' ⟨rfl, hb⟩; replace H := Zb (H.out.call hb); clear hb; have e0 : w'.cell? ⟨x, 0, none⟩ = some (.int .u8 (a : Int)) := (by have hh := Ex.cell H 0 _ rfl; rw [show s1.r.a = _ from ha1] at hh; exact hh); have e1 : w'.cell? ⟨x, 1, none⟩ = some (.int .u8 (f : Int)) := (by have hh := Ex.cell H 1 _ rfl; rw [show s1.r.f = _ from hf1] at hh; exact hh)))
   go_wp2_with (first | (refine a2 ?_; clear H; intro w' H) | (go_at_call 89; (with_reducible refine (JR _ hMth _ _ _ c hc H).mono ?_); clear H; rintro e w' ⟨rfl, H⟩) | fail)
   go_ret
   exact ⟨rfl, Zb H.out.drop2⟩) : P := h
theorem ZgL {t u : Tx} {th : Tx} (hMth : Mem th) (hq : tq < 65536) (s1 : Cs) (hs1 : Hid (s.rd tq = s1)) (op : Nat) (hop : op < 8) (m : Tx) (hm : Hid (suT.getD op [] = m)) (a f : Nat) (ha : Hid (s.r.a = a)) (hf : Hid (s.r.f = f)) (v p y : Nat) (hp : Hid (Zeb op a v f = p)) (hy : Hid (Zec op a v f = y)) (B : Bool) (hB : (u == []) = B) (hP : Hid (Jn t = false)) (hth : th = cond B t u) (hv : Hid (s.m tq = v)) (c : Int) (hc : cond ix 15 7 = c) (H : Hid (Ex W0 w x b s tq ix pg l (n + 1))) :
  CX 47 #[.pointer (some ⟨x, 0, none⟩), .string ⟨m.toArray⟩, .string ⟨t.toArray⟩, .string ⟨u.toArray⟩] w (.int .i64 c) fun w' => Hid (Ex W0 w' x b ((s1.setA p).setF y) tq ix pg l n) := by
 have uthn : (th == [110]) = false := by rcases hMth with rfl | rfl | rfl <;> decide
 have v8 : v < 256 := by rw [← hv.out]; exact Ex.m8 H _
 have a8 : a < 256 := by rw [← ha.out]; exact H.out.fits.a
 have f8 : f < 256 := by rw [← hf.out]; exact H.out.fits.f
 have ha0 := ha.out
 have hf0 := hf.out
 have p8 : p < 256 := by rw [← hp.out]; exact Up _ _ _ _ hop a8 v8
 have y8 : y < 256 := by rw [← hy.out]; exact Uq _ _ _ _ hop
 have op8 : (op : Int) % 8 = (op : Int) := by omega
 have ha1 : s1.r.a = a := by rw [← ha.out, ← hs1.out]
 have hf1 : s1.r.f = f := by rw [← hf.out, ← hs1.out]
 cases B
 ·obtain rfl : th = u := hth
  exact k4
 ·obtain rfl : th = t := hth
  exact k4
theorem k5 {P : Prop} (h : P := by
 go_enter Tryz.func47, Tryz.ntmps47
 go_upto_region 23 with (first | (go_at_call 91; (with_reducible refine (KX _ _ hP _).mono ?_); rintro e w' ⟨rfl, hb⟩; replace H := Zb (H.out.call hb); clear hb) | (refine a35 ?_; clear H; intro w' g1 H) | fail)
 go_loopw [112] (fun i wr => ∃ k : Nat, k ≤ op ∧ i = .int .i64 (k : Int) ∧ Hid (Ex W0 wr x b s tq ix pg ((g1, 9, suT.map fun t => Value.string ⟨t.toArray⟩) :: l) (n + 1))) (fun i _ => op - (intOf i).toNat)
 case atStart => exact ⟨0, by omega, rfl, H⟩
 case round =>
  clear H
  obtain ⟨k, hk, rfl, H⟩ := hrel
  have hlt' : (k : Int) < 8 := by omega
  obtain ⟨m', hm'⟩ : ∃ m, suT.getD k [] = m := ⟨_, rfl⟩
  have HMk := Zb (jP k (by omega))
  rw [hm'] at HMk
  by_cases hlt : k < op
  ·have hqm : (m' == m) = false := by rw [← hm', ← hm.out]; exact su_ne k (by omega) op hop (by omega)
   go_wp2_with (first | refine a27 ?_ | fail)
   go_roundw
   case rel => exact ⟨k + 1, by omega, by go_num, H⟩
   case measure => simp [intOf]; omega
  ·obtain rfl : k = op := by omega
   have hqm : (m' == m) = true := by rw [← hm', ← hm.out]; exact su_self k hop
   go_upto_region 26 with (first | refine a27 ?_ | fail)
   have H := Zb H.out.drew
   have c0 := Ex.cell H 0 _ rfl
   have c1 := Ex.cell H 1 _ rfl
   rw [show s.r.a = a from ha0] at c0
   rw [show s.r.f = f from hf0] at c1
   go_region_held3 (fun w' => w'.cell? ⟨x, 0, none⟩ = some (.int .u8 (a : Int)) ∧ w'.cell? ⟨x, 1, none⟩ = some (.int .u8 (f : Int))) (first | assumption | (simp only [*]; trivial) | simp [*]) (first | (go_at_call 88; (with_reducible refine (jK v s1 hv hs1 H).mono ?_); clear H; rintro e w' ⟨rfl, _, H⟩; have d0 : w'.cell? ⟨x, 0, none⟩ = some (.int .u8 (a : Int)) := (by have hh := Ex.cell H 0 _ rfl; rw [show s1.r.a = _ from ha1] at hh; exact hh); have d1 : w'.cell? ⟨x, 1, none⟩ = some (.int .u8 (f : Int)) := (by have hh := Ex.cell H 1 _ rfl; rw [show s1.r.f = _ from hf1] at hh; exact hh)) | (go_at_call 97; (with_reducible refine (Zdw (k : Int) k a v f p y op8 a8 v8 f8 hp hy _).mono ?_); rintro e w' ⟨rfl, hb⟩; replace H := Zb (H.out.call hb); clear hb; have e0 : w'.cell? ⟨x, 0, none⟩ = some (.int .u8 (a : Int)) := (by have hh := Ex.cell H 0 _ rfl; rw [show s1.r.a = _ from ha1] at hh; exact hh); have e1 : w'.cell? ⟨x, 1, none⟩ = some (.int .u8 (f : Int)) := (by have hh := Ex.cell H 1 _ rfl; rw [show s1.r.f = _ from hf1] at hh; exact hh)))
   go_wp2_with (first | (refine a2 ?_; clear H; intro w' H) | fail)
   go_ret
   exact ⟨rfl, Zb H.out.drop2⟩) : P := h
theorem ZgM {t u : Tx} (s1 : Cs) (hs1 : Hid (s.next = s1)) (op : Nat) (hop : op < 8) (m : Tx) (hm : Hid (suT.getD op [] = m)) (a f : Nat) (ha : Hid (s.r.a = a)) (hf : Hid (s.r.f = f)) (v p y : Nat) (hp : Hid (Zeb op a v f = p)) (hy : Hid (Zec op a v f = y)) (B : Bool) (hB : (u == []) = B) (hP : Hid (Jn t = false)) (hth : ([110] : Tx) = cond B t u) (hv : Hid (s.nextV = v)) (H : Hid (Ex W0 w x b s tq ix pg l (n + 1))) :
  CX 47 #[.pointer (some ⟨x, 0, none⟩), .string ⟨m.toArray⟩, .string ⟨t.toArray⟩, .string ⟨u.toArray⟩] w (.int .i64 7) fun w' => Hid (Ex W0 w' x b ((s1.setA p).setF y) tq ix pg l n) := by
 have v8 : v < 256 := by rw [← hv.out]; exact Ex.m8 H _
 have a8 : a < 256 := by rw [← ha.out]; exact H.out.fits.a
 have f8 : f < 256 := by rw [← hf.out]; exact H.out.fits.f
 have ha0 := ha.out
 have hf0 := hf.out
 have p8 : p < 256 := by rw [← hp.out]; exact Up _ _ _ _ hop a8 v8
 have y8 : y < 256 := by rw [← hy.out]; exact Uq _ _ _ _ hop
 have op8 : (op : Int) % 8 = (op : Int) := by omega
 have ha1 : s1.r.a = a := by rw [← ha.out, ← hs1.out]; rfl
 have hf1 : s1.r.f = f := by rw [← hf.out, ← hs1.out]; rfl
 cases B
 ·obtain rfl : [110] = u := hth
  exact k5
 ·obtain rfl : [110] = t := hth
  exact k5
theorem ZlE (r : Rg) (hb : r.i < 256) (w : World) : CB 43 #[r.v, .string ⟨#[73]⟩] w (.int .i64 (r.i : Int)) := by
 have hb1 : (r.i : Int) < 256 := by omega
 exact k8
theorem ZlF (r : Rg) (v : Nat) (hv : v < 256) (w : World) : CB 99 #[r.v, .string ⟨#[73]⟩, .int .i64 (v : Int)] w (({ r with i := v } : Rg).v) := by
 have hv1 : (v : Int) % 256 = (v : Int) := by omega
 have hv2 : (v : Int) < 256 := by omega
 clear hv
 have HM := Zb (Own.start w)
 go_enter Tryz.func99, Tryz.ntmps99
 go_wp2_with (first | (refine b0 ?_; clear HM; intro w' g' HM) | refine a6 ?_ | (refine b1 ?_; clear HM; intro w' HM))
 refine bodyPost_ret (v := .agg (r.cells.set 21 (.int .u8 (v : Int))).toArray) (Zi HM Tryz.results99 _ rfl (by first | exact .z | exact .s .z) aggR) rfl ⟨rfl, Own.fin HM⟩
theorem nmI : Nm [73] (fun r => r.i) (fun r v => { r with i := v }) 256 where
 get r w hr := ZlE r hr.i w
 set r v w _ hv := ZlF r v hv w
 lt r hr := hr.i
 fits r v hr hv := { hr with i := hv }
 top := by decide
theorem ZlG (r : Rg) (hb : r.r < 256) (w : World) : CB 43 #[r.v, .string ⟨#[82]⟩] w (.int .i64 (r.r : Int)) := by
 have hb1 : (r.r : Int) < 256 := by omega
 exact k8
theorem ZlH (r : Rg) (v : Nat) (hv : v < 256) (w : World) : CB 99 #[r.v, .string ⟨#[82]⟩, .int .i64 (v : Int)] w (({ r with r := v } : Rg).v) := by
 have hv1 : (v : Int) % 256 = (v : Int) := by omega
 have hv2 : (v : Int) < 256 := by omega
 clear hv
 have HM := Zb (Own.start w)
 go_enter Tryz.func99, Tryz.ntmps99
 go_wp2_with (first | (refine b0 ?_; clear HM; intro w' g' HM) | refine a6 ?_ | (refine b1 ?_; clear HM; intro w' HM))
 refine bodyPost_ret (v := .agg (r.cells.set 22 (.int .u8 (v : Int))).toArray) (Zi HM Tryz.results99 _ rfl (by first | exact .z | exact .s .z) aggR) rfl ⟨rfl, Own.fin HM⟩
theorem nmR : Nm [82] (fun r => r.r) (fun r v => { r with r := v }) 256 where
 get r w hr := ZlG r hr.r w
 set r v w _ hv := ZlH r v hv w
 lt r hr := hr.r
 fits r v hr hv := { hr with r := hv }
 top := by decide
theorem nmA : Nm [65] (fun r => r.a) (fun r v => { r with a := v }) 256 := Nm.ofLet 7 0 (by decide)
theorem ZlI (v : Nat) (hv : Hid (s.r.a = v)) (r : Rg) (hr : Hid (({ s.r with i := v } : Rg) = r)) (H : Hid (Ex W0 w x b s tq ix pg l n)) :
  CX 45 #[.pointer (some ⟨x, 0, none⟩), .string ⟨#[73]⟩, .string ⟨#[65]⟩] w (.int .i64 9) fun w' => Hid (Ex W0 w' x b (s.setR r) tq ix pg l n) := by
 have v8 : v < 256 := by rw [← hv.out]; exact H.out.fits.a
 go_enter Tryz.func45, Tryz.ntmps45
 go_wp2_with (first | (go_at_call 22; (with_reducible refine (Yq nmA v hv H).mono ?_); clear H; rintro e w' ⟨rfl, H⟩) | (go_at_call 49; (with_reducible refine (Z1 nmI v v8 r hr H).mono ?_); clear H; rintro e w' ⟨rfl, H⟩) | fail)
 go_ret
 exact ⟨rfl, H⟩
theorem ZlJ (v f : Nat) (P : Bool) (hv : Hid (s.r.i = v)) (hf : Hid (s.r.f = f)) (hP : Hid (s.r.q2 = P)) (y : Nat) (hy : Hid (Zq (nS v) (nZ v) (Zf 32 v) false (Zf 8 v) P false (Zf 1 f) = y)) (H : Hid (Ex W0 w x b s tq ix pg l n)) :
  CX 45 #[.pointer (some ⟨x, 0, none⟩), .string ⟨#[65]⟩, .string ⟨#[73]⟩] w (.int .i64 9) fun w' => Hid (Ex W0 w' x b ((s.setA v).setF y) tq ix pg l n) := by
 obtain ⟨r1, hr1⟩ : ∃ x, Hid (({ s.r with a := v } : Rg) = x) := ⟨_, rfl⟩
 obtain ⟨s1, hs1⟩ : ∃ x, Hid (s.setR r1 = x) := ⟨_, rfl⟩
 have v8 : v < 256 := by rw [← hv.out]; exact H.out.fits.i
 have f8 : f < 256 := by rw [← hf.out]; exact H.out.fits.f
 have y8 : y < 256 := by rw [← hy.out]; exact Zm _ _ _ _ _ _ _ _
 have es1 := hs1.out
 have a1 : s1.r.a = v := by rw [← hs1.out, ← hr1.out]
 have f1 : s1.r.f = f := by rw [← hf.out, ← hs1.out, ← hr1.out]
 have q1 : s1.r.q2 = P := by rw [← hP.out, ← hs1.out, ← hr1.out]
 have es : s1.setF y = (s.setA v).setF y := by rw [← hs1.out, ← hr1.out]
 obtain ⟨S, hS⟩ : ∃ b, nS v = b := ⟨_, rfl⟩
 obtain ⟨Z, hZ⟩ : ∃ b, nZ v = b := ⟨_, rfl⟩
 obtain ⟨Y, hY⟩ : ∃ b, Zf 32 v = b := ⟨_, rfl⟩
 obtain ⟨X8, hX8⟩ : ∃ b, Zf 8 v = b := ⟨_, rfl⟩
 obtain ⟨C, hC⟩ : ∃ b, Zf 1 f = b := ⟨_, rfl⟩
 have hsh := Zb (fun w => Z3 v S Z Y X8 v8 (Zb ⟨hS, hZ, hY, hX8⟩) w)
 have hby := Zb (fun w => Zs S Z Y false X8 P false C y (Zb (by rw [← hS, ← hZ, ← hY, ← hX8, ← hC]; exact hy.out)) w)
 have eC : ((f : Int) % 2 == 1) = C := by
  exact k46
 clear hS hZ hY hX8 hC
 go_enter Tryz.func45, Tryz.ntmps45
 go_upto_region 12 with (first | (go_at_call 22; (with_reducible refine (Yq nmI v hv H).mono ?_); clear H; rintro e w' ⟨rfl, H⟩) | (go_at_call 49; (with_reducible refine (Z1 nmA v v8 r1 hr1 H).mono ?_); clear H; rintro e w' ⟨rfl, H⟩) | fail)
 rw [es1] at H
 obtain ⟨HF, HG, X, HX, HM⟩ := H.out.hid
 clear H
 go_upto_region 15 with (first | refine b16 ?_ | (refine b7 ?_; clear HM; intro w' g' HM) | (refine a12 ?_; clear HM; intro w' HM) | (go_at_call 85; (try rw [a1]); (with_reducible refine (hsh.out _).mono ?_); rintro e w' ⟨rfl, hb⟩; replace HM := Zb (HM.out.call hb); clear hb))
 go_wp2_with (first | (refine b7 ?_; clear HM; intro w' g' HM) | refine b8 ?_ | (refine a12 ?_; clear HM; intro w' HM) | (go_at_call 86; (with_reducible refine (hby.out _).mono ?_); rintro e w' ⟨rfl, hb⟩; replace HM := Zb (HM.out.call hb); clear hb) | ((with_reducible apply Ye HM); exact rfl; exact rfl; exact rfl; exact .s .z; exact Zkd; exact .s .z; exact oneU8.size; exact rfl; exact rfl; (rw [xc_length]; decide); exact rfl; clear HM; intro w' HM))
 go_ret
 have hf' : (s1.setF y).r.Fits := { HF.out with f := y8 }
 rw [← es]
 exact ⟨rfl, Zb ⟨hf', HG.out, X, HX.out, HM.out.forget⟩⟩
theorem ZlK (v : Nat) (hv : Hid (s.r.a = v)) (r : Rg) (hr : Hid (({ s.r with r := v } : Rg) = r)) (H : Hid (Ex W0 w x b s tq ix pg l n)) :
  CX 45 #[.pointer (some ⟨x, 0, none⟩), .string ⟨#[82]⟩, .string ⟨#[65]⟩] w (.int .i64 9) fun w' => Hid (Ex W0 w' x b (s.setR r) tq ix pg l n) := by
 have v8 : v < 256 := by rw [← hv.out]; exact H.out.fits.a
 go_enter Tryz.func45, Tryz.ntmps45
 go_wp2_with (first | (go_at_call 22; (with_reducible refine (Yq nmA v hv H).mono ?_); clear H; rintro e w' ⟨rfl, H⟩) | (go_at_call 49; (with_reducible refine (Z1 nmR v v8 r hr H).mono ?_); clear H; rintro e w' ⟨rfl, H⟩) | fail)
 go_ret
 exact ⟨rfl, H⟩
theorem ZlL (v f : Nat) (P : Bool) (hv : Hid (s.r.r = v)) (hf : Hid (s.r.f = f)) (hP : Hid (s.r.q2 = P)) (y : Nat) (hy : Hid (Zq (nS v) (nZ v) (Zf 32 v) false (Zf 8 v) P false (Zf 1 f) = y)) (H : Hid (Ex W0 w x b s tq ix pg l n)) :
  CX 45 #[.pointer (some ⟨x, 0, none⟩), .string ⟨#[65]⟩, .string ⟨#[82]⟩] w (.int .i64 9) fun w' => Hid (Ex W0 w' x b ((s.setA v).setF y) tq ix pg l n) := by
 obtain ⟨r1, hr1⟩ : ∃ x, Hid (({ s.r with a := v } : Rg) = x) := ⟨_, rfl⟩
 obtain ⟨s1, hs1⟩ : ∃ x, Hid (s.setR r1 = x) := ⟨_, rfl⟩
 have v8 : v < 256 := by rw [← hv.out]; exact H.out.fits.r
 have f8 : f < 256 := by rw [← hf.out]; exact H.out.fits.f
 have y8 : y < 256 := by rw [← hy.out]; exact Zm _ _ _ _ _ _ _ _
 have es1 := hs1.out
 have a1 : s1.r.a = v := by rw [← hs1.out, ← hr1.out]
 have f1 : s1.r.f = f := by rw [← hf.out, ← hs1.out, ← hr1.out]
 have q1 : s1.r.q2 = P := by rw [← hP.out, ← hs1.out, ← hr1.out]
 have es : s1.setF y = (s.setA v).setF y := by rw [← hs1.out, ← hr1.out]
 obtain ⟨S, hS⟩ : ∃ b, nS v = b := ⟨_, rfl⟩
 obtain ⟨Z, hZ⟩ : ∃ b, nZ v = b := ⟨_, rfl⟩
 obtain ⟨Y, hY⟩ : ∃ b, Zf 32 v = b := ⟨_, rfl⟩
 obtain ⟨X8, hX8⟩ : ∃ b, Zf 8 v = b := ⟨_, rfl⟩
 obtain ⟨C, hC⟩ : ∃ b, Zf 1 f = b := ⟨_, rfl⟩
 have hsh := Zb (fun w => Z3 v S Z Y X8 v8 (Zb ⟨hS, hZ, hY, hX8⟩) w)
 have hby := Zb (fun w => Zs S Z Y false X8 P false C y (Zb (by rw [← hS, ← hZ, ← hY, ← hX8, ← hC]; exact hy.out)) w)
 have eC : ((f : Int) % 2 == 1) = C := by
  exact k46
 clear hS hZ hY hX8 hC
 go_enter Tryz.func45, Tryz.ntmps45
 go_upto_region 12 with (first | (go_at_call 22; (with_reducible refine (Yq nmR v hv H).mono ?_); clear H; rintro e w' ⟨rfl, H⟩) | (go_at_call 49; (with_reducible refine (Z1 nmA v v8 r1 hr1 H).mono ?_); clear H; rintro e w' ⟨rfl, H⟩) | fail)
 rw [es1] at H
 obtain ⟨HF, HG, X, HX, HM⟩ := H.out.hid
 clear H
 go_upto_region 15 with (first | refine b16 ?_ | (refine b7 ?_; clear HM; intro w' g' HM) | (refine a12 ?_; clear HM; intro w' HM) | (go_at_call 85; (try rw [a1]); (with_reducible refine (hsh.out _).mono ?_); rintro e w' ⟨rfl, hb⟩; replace HM := Zb (HM.out.call hb); clear hb))
 go_wp2_with (first | (refine b7 ?_; clear HM; intro w' g' HM) | refine b8 ?_ | (refine a12 ?_; clear HM; intro w' HM) | (go_at_call 86; (with_reducible refine (hby.out _).mono ?_); rintro e w' ⟨rfl, hb⟩; replace HM := Zb (HM.out.call hb); clear hb) | ((with_reducible apply Ye HM); exact rfl; exact rfl; exact rfl; exact .s .z; exact Zkd; exact .s .z; exact oneU8.size; exact rfl; exact rfl; (rw [xc_length]; decide); exact rfl; clear HM; intro w' HM))
 go_ret
 have hf' : (s1.setF y).r.Fits := { HF.out with f := y8 }
 rw [← es]
 exact ⟨rfl, Zb ⟨hf', HG.out, X, HX.out, HM.out.forget⟩⟩
end
end Go.Proofs.YtgdeeiimkhjfiaaGreatDoor
