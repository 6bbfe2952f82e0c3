import Derived.Test.YtljjgakfnajifaaGreatDoorZCpuMw0
import Derived.Test.YtljjgakfnajifaaGreatDoorZNdIn
import Derived.Deep.Cut
import Derived.Deep.CutRange
set_option linter.unusedSimpArgs false
set_option linter.unusedVariables false
namespace Go.Proofs.YtljjgakfnajifaaGreatDoor
open Go.RowKit
theorem rname_n (v : Value) (bs : List Nat) (hl : bs.length < 10000) (hb8 : ∀ i, bs.getD i 0 < 256) (t : Tx) (ln : Nat) (h1 : Hid ((rName bs).1 = t)) (h2 : Hid ((rName bs).2 = ln)) (w : World) (hR : Rd w v (by8 bs)) :
    Calls Tryz.prog 22 #[v] w fun e w' => e = .returned (.tuple #[.string ⟨t.toArray⟩, .int .i64 (ln : Int)]) ∧ Below w.heap.size w w' := by
  rw [← h1.out, ← h2.out]; exact rname_at v bs hl hb8 w hR
theorem has_n (s part : Tx) (b : Bool) (hs : s.length ≤ 400) (ho : part ≠ []) (hol : part.length ≤ 8) (hb : Hid (rHas s part = b)) (w : World) :
    Calls Tryz.prog 23 #[.string ⟨s.toArray⟩, .string ⟨part.toArray⟩] w fun e w' => e = .returned (.bool b) ∧ Below w.heap.size w w' := by
  rw [← hb.out]; exact has_at s part hs ho hol w
theorem out_len (k : Kd) (bs : List Nat) (nx : Nat) : (k.out bs nx).1.length ≤ k.tx.length + 10 := by
  have h1 := len_sgn (bs.getD nx 0)
  cases k with
  | k0 s => show s.length ≤ s.length + 10; omega
  | k1 a c => show (a ++ (sgn (bs.getD nx 0) ++ c)).length ≤ (a ++ ([43, 100] ++ c)).length + 10; simp only [List.length_append, List.length_cons, List.length_nil]; omega
  | k2 a c d => show ((a ++ (sgn (bs.getD nx 0) ++ c)) ++ (dol (bs.getD (nx + 1) 0) ++ d)).length ≤ (a ++ ([43, 100] ++ (c ++ (110 :: d)))).length + 10; simp only [dol, hex2, List.length_append, List.length_cons, List.length_nil]; omega
  | k3 a c => show (a ++ (dol2 (bs.getD nx 0) (bs.getD (nx + 1) 0) ++ c)).length ≤ (a ++ ([110, 110] ++ c)).length + 10; simp only [dol2, hex2, List.length_append, List.length_cons, List.length_nil]; omega
  | k4 a c => show (a ++ (dol (bs.getD nx 0) ++ c)).length ≤ (a ++ (110 :: c)).length + 10; simp only [dol, hex2, List.length_append, List.length_cons, List.length_nil]; omega
  | k5 a c => show (a ++ (sgn (bs.getD nx 0) ++ c)).length ≤ (a ++ (101 :: c)).length + 10; simp only [List.length_append, List.length_cons, List.length_nil]; omega
theorem rname_len (bs : List Nat) (hb : ∀ i, bs.getD i 0 < 256) : (rName bs).1.length ≤ 400 := by
  have key : ∀ p O R, p < 7 → (spotName bs p O R).1.length ≤ 400 := by
    intro p O R hp
    obtain ⟨h1, h2⟩ := parse_ok p (bs.getD O 0) hp (hb O)
    have h3 := len_pat (p : Int) _ (hb O)
    have h4 := out_len (parseK (cPat (p : Int) (bs.getD O 0))) bs R
    rw [spotName, ← h1, kd_code bs hb R _ h2]
    show (Kd.out bs R _).1.length ≤ 400
    rw [h1] at h4
    omega
  rw [← name_same bs hb, cName_spot]
  have := (find_lim (bs.getD 0 0) (bs.getD 1 0)).1
  exact key _ _ _ (by omega)
theorem made10 (w : World) : (Instr.buildSlice 52 10 #[(0, .string ⟨#[74]⟩), (1, .string ⟨#[67, 65, 76, 76]⟩), (2, .string ⟨#[82, 69, 84]⟩), (3, .string ⟨#[82, 83, 84]⟩), (4, .string ⟨#[68, 74, 78, 90]⟩), (5, .string ⟨#[73, 82]⟩), (6, .string ⟨#[68, 82]⟩), (7, .string ⟨#[68, 68]⟩), (8, .string ⟨#[70, 68]⟩), (9, .string ⟨#[76, 68, 32, 82]⟩)]).run Tryz.prog w = .ok (.slice (some ⟨w.heap.size, 0, none⟩) 10 10) (w.alloc (.cells (mvS.map fun t => Value.string ⟨t.toArray⟩).toArray 9)) := by kernel_rfl
theorem mv_cell (k : Nat) (hk : k < 10) : (mvS.map fun t => Value.string ⟨t.toArray⟩)[k]? = some (.string ⟨(mvS.getD k []).toArray⟩) := by
  rw [List.getElem?_map, List.getElem?_eq_getElem (show k < mvS.length from hk), List.getD_eq_getElem?_getD, List.getElem?_eq_getElem (show k < mvS.length from hk)]; rfl
theorem mv_piece : ∀ k, k < 10 → mvS.getD k [] ≠ [] ∧ (mvS.getD k []).length ≤ 8 := by decide
theorem mv_all (t : Tx) (h : ∀ j, j < 10 → rHas t (mvS.getD j []) = false) : ∀ m ∈ mvS, rHas t m = false := by
  intro m hm
  obtain ⟨j, hj, e⟩ := List.mem_iff_getElem.1 hm
  have := h j hj
  rwa [List.getD_eq_getElem?_getD, List.getElem?_eq_getElem hj, Option.getD_some, e] at this
theorem reads_rd {W0 : World} {l : Blocks} {g o : Nat} {bs : List Nat} (hb : ∀ i, bs.getD i 0 < 256) (hg : g < W0.heap.size) (hc : ∀ j u, (by8 bs)[j]? = some u → W0.cell? ⟨g, o + j, none⟩ = some u) : Reads W0 l (some ⟨g, o, none⟩) bs := by
  refine ⟨fun y hy => ?_, fun _ => ⟨g, o, rfl, fun w hO i y hy => ?_⟩⟩
  · obtain ⟨j, hj, rfl⟩ := List.mem_iff_getElem.1 hy
    have := hb j
    rwa [List.getD_eq_getElem?_getD, List.getElem?_eq_getElem hj, Option.getD_some] at this
  · refine (hO.below.cell (p := ⟨g, o + i, none⟩) hg).trans (hc i _ ?_)
    rw [by8, List.getElem?_map, hy]; rfl
theorem low7 (x : Nat) (h : x < 256) : bits .and .u8 (x : Int) 127 = ((x % 128 : Nat) : Int) := by
  rw [u8_and x 127 (by omega) (by omega) (by omega) (by omega)]
  have e : (Int.toNat (x : Int)) &&& (Int.toNat 127) = x % 128 := by rw [Int.toNat_natCast]; exact Nat.and_two_pow_sub_one_eq_mod x 7
  exact congrArg Nat.cast e
theorem high1 (x : Nat) (h : x < 256) : bits .and .u8 (x : Int) 128 = ((x / 128 * 128 : Nat) : Int) := by
  rw [u8_and x 128 (by omega) (by omega) (by omega) (by omega)]
  have e : (Int.toNat (x : Int)) &&& (Int.toNat 128) = x / 128 * 128 := by
    rw [Int.toNat_natCast]
    have : ∀ x, x < 256 → x &&& 128 = x / 128 * 128 := by decide +kernel
    exact this x h
  exact congrArg Nat.cast e
set_option maxRecDepth 100000 in
set_option maxHeartbeats 3200000 in
theorem moves_wrong (r : Rg) (hr : r.Fits) (a : Option Addr) (n cc : Nat) (HRB : Hid (r.right = false)) (w : World) (hT : Tabs w) :
    Calls Tryz.prog 7 #[r.v, .slice a n cc] w fun e w' => e = .returned (.bool true) ∧ Below w.heap.size w w' := by
  have HT := Lib.hid hT
  clear hT
  have HM := Lib.hid (Own.start w)
  have tg1 : Hid True := trivial
  go_enter Tryz.func7, Tryz.ntmps7
  go_wp2_with (first | ((with_reducible apply own_box HM); exact rfl; (conv => lhs; whnf); exact rfl; exact rfl; (first | (clear tg1 HM; intro w' g1 HM) | (clear tg2 HM; intro w' g2 HM) | (clear tg3 HM; intro w' g3 HM) | (clear tg4 HM; intro w' g4 HM) | (clear HM; intro w' g' HM))) | ((with_reducible apply own_row HM); exact rfl; exact rfl; exact aggR; exact sS; exact rfl; exact lS) | ((with_reducible apply own_get HM); exact rfl; exact rfl; exact oS; exact sS; (conv => lhs; whnf); exact rfl) | (go_at_call 16; (with_reducible refine (cpuAlive_any _ (Tabs.own HT HM)).mono ?_); rintro e w' ⟨rfl, hb⟩; replace HM := Lib.hid (HM.out.call hb); clear hb) | (go_at_call 17; (with_reducible refine (rrightRegs r _ HRB _).mono ?_); rintro e w' ⟨rfl, hb⟩; replace HM := Lib.hid (HM.out.call hb); clear hb))
  go_ret
  exact ⟨rfl, Own.fin HM⟩
set_option maxRecDepth 100000 in
set_option maxHeartbeats 3200000 in
theorem moves_short (r : Rg) (hr : r.Fits) (a : Option Addr) (n cc : Nat) (HRB : Hid (r.right = true)) (h4 : decide ((n : Int) < 4) = true) (w : World) (hT : Tabs w) :
    Calls Tryz.prog 7 #[r.v, .slice a n cc] w fun e w' => e = .returned (.bool true) ∧ Below w.heap.size w w' := by
  have HT := Lib.hid hT
  clear hT
  have HM := Lib.hid (Own.start w)
  have tg1 : Hid True := trivial
  go_enter Tryz.func7, Tryz.ntmps7
  go_wp2_with (first | ((with_reducible apply own_box HM); exact rfl; (conv => lhs; whnf); exact rfl; exact rfl; (first | (clear tg1 HM; intro w' g1 HM) | (clear tg2 HM; intro w' g2 HM) | (clear tg3 HM; intro w' g3 HM) | (clear tg4 HM; intro w' g4 HM) | (clear HM; intro w' g' HM))) | ((with_reducible apply own_row HM); exact rfl; exact rfl; exact aggR; exact sS; exact rfl; exact lS) | ((with_reducible apply own_get HM); exact rfl; exact rfl; exact oS; exact sS; (conv => lhs; whnf); exact rfl) | (go_at_call 16; (with_reducible refine (cpuAlive_any _ (Tabs.own HT HM)).mono ?_); rintro e w' ⟨rfl, hb⟩; replace HM := Lib.hid (HM.out.call hb); clear hb) | (go_at_call 17; (with_reducible refine (rrightRegs r _ HRB _).mono ?_); rintro e w' ⟨rfl, hb⟩; replace HM := Lib.hid (HM.out.call hb); clear hb))
  go_ret
  exact ⟨rfl, Own.fin HM⟩
set_option maxRecDepth 100000 in
set_option maxHeartbeats 3200000 in
theorem moves_long (r : Rg) (hr : r.Fits) (a : Option Addr) (n cc : Nat) (HRB : Hid (r.right = true)) (h4 : decide ((n : Int) < 4) = false) (h20 : decide ((20 : Int) < (n : Int)) = true) (w : World) (hT : Tabs w) :
    Calls Tryz.prog 7 #[r.v, .slice a n cc] w fun e w' => e = .returned (.bool true) ∧ Below w.heap.size w w' := by
  have HT := Lib.hid hT
  clear hT
  have HM := Lib.hid (Own.start w)
  have tg1 : Hid True := trivial
  go_enter Tryz.func7, Tryz.ntmps7
  go_wp2_with (first | ((with_reducible apply own_box HM); exact rfl; (conv => lhs; whnf); exact rfl; exact rfl; (first | (clear tg1 HM; intro w' g1 HM) | (clear tg2 HM; intro w' g2 HM) | (clear tg3 HM; intro w' g3 HM) | (clear tg4 HM; intro w' g4 HM) | (clear HM; intro w' g' HM))) | ((with_reducible apply own_row HM); exact rfl; exact rfl; exact aggR; exact sS; exact rfl; exact lS) | ((with_reducible apply own_get HM); exact rfl; exact rfl; exact oS; exact sS; (conv => lhs; whnf); exact rfl) | (go_at_call 16; (with_reducible refine (cpuAlive_any _ (Tabs.own HT HM)).mono ?_); rintro e w' ⟨rfl, hb⟩; replace HM := Lib.hid (HM.out.call hb); clear hb) | (go_at_call 17; (with_reducible refine (rrightRegs r _ HRB _).mono ?_); rintro e w' ⟨rfl, hb⟩; replace HM := Lib.hid (HM.out.call hb); clear hb))
  go_ret
  exact ⟨rfl, Own.fin HM⟩
set_option maxRecDepth 100000 in
set_option maxHeartbeats 3200000 in
theorem moves_pre (r : Rg) (hr : r.Fits) (a : Option Addr) (n cc : Nat) (HRB : Hid (r.right = true)) (h4 : decide ((n : Int) < 4) = false) (h20 : decide ((20 : Int) < (n : Int)) = false) (c3 : ((r.px : Int) != 0) = true) (w : World) (hT : Tabs w) :
    Calls Tryz.prog 7 #[r.v, .slice a n cc] w fun e w' => e = .returned (.bool true) ∧ Below w.heap.size w w' := by
  have HT := Lib.hid hT
  clear hT
  have HM := Lib.hid (Own.start w)
  have tg1 : Hid True := trivial
  go_enter Tryz.func7, Tryz.ntmps7
  go_wp2_with (first | ((with_reducible apply own_box HM); exact rfl; (conv => lhs; whnf); exact rfl; exact rfl; (first | (clear tg1 HM; intro w' g1 HM) | (clear tg2 HM; intro w' g2 HM) | (clear tg3 HM; intro w' g3 HM) | (clear tg4 HM; intro w' g4 HM) | (clear HM; intro w' g' HM))) | ((with_reducible apply own_row HM); exact rfl; exact rfl; exact aggR; exact sS; exact rfl; exact lS) | ((with_reducible apply own_get HM); exact rfl; exact rfl; exact oS; exact sS; (conv => lhs; whnf); exact rfl) | (go_at_call 16; (with_reducible refine (cpuAlive_any _ (Tabs.own HT HM)).mono ?_); rintro e w' ⟨rfl, hb⟩; replace HM := Lib.hid (HM.out.call hb); clear hb) | (go_at_call 17; (with_reducible refine (rrightRegs r _ HRB _).mono ?_); rintro e w' ⟨rfl, hb⟩; replace HM := Lib.hid (HM.out.call hb); clear hb))
  go_ret
  exact ⟨rfl, Own.fin HM⟩
set_option maxRecDepth 100000 in
set_option maxHeartbeats 3200000 in
theorem moves_halted (r : Rg) (hr : r.Fits) (a : Option Addr) (n cc : Nat) (HRB : Hid (r.right = true)) (h4 : decide ((n : Int) < 4) = false) (h20 : decide ((20 : Int) < (n : Int)) = false) (c3 : ((r.px : Int) != 0) = false) (hh : r.ht = true) (w : World) (hT : Tabs w) :
    Calls Tryz.prog 7 #[r.v, .slice a n cc] w fun e w' => e = .returned (.bool true) ∧ Below w.heap.size w w' := by
  have HT := Lib.hid hT
  clear hT
  have HM := Lib.hid (Own.start w)
  have tg1 : Hid True := trivial
  go_enter Tryz.func7, Tryz.ntmps7
  go_wp2_with (first | (exact absurd (hh.symm.trans (by with_reducible assumption : r.ht = false)) Bool.noConfusion) | ((with_reducible apply own_box HM); exact rfl; (conv => lhs; whnf); exact rfl; exact rfl; (first | (clear tg1 HM; intro w' g1 HM) | (clear tg2 HM; intro w' g2 HM) | (clear tg3 HM; intro w' g3 HM) | (clear tg4 HM; intro w' g4 HM) | (clear HM; intro w' g' HM))) | ((with_reducible apply own_row HM); exact rfl; exact rfl; exact aggR; exact sS; exact rfl; exact lS) | ((with_reducible apply own_get HM); exact rfl; exact rfl; exact oS; exact sS; (conv => lhs; whnf); exact rfl) | (go_at_call 16; (with_reducible refine (cpuAlive_any _ (Tabs.own HT HM)).mono ?_); rintro e w' ⟨rfl, hb⟩; replace HM := Lib.hid (HM.out.call hb); clear hb) | (go_at_call 17; (with_reducible refine (rrightRegs r _ HRB _).mono ?_); rintro e w' ⟨rfl, hb⟩; replace HM := Lib.hid (HM.out.call hb); clear hb))
  go_ret
  exact ⟨rfl, Own.fin HM⟩
set_option maxRecDepth 100000 in
set_option maxHeartbeats 3200000 in
theorem moves_plain (r : Rg) (hr : r.Fits) (bs : List Nat) (g o cc : Nat) (hb : ∀ i, bs.getD i 0 < 256) (h4 : 4 ≤ bs.length) (h20 : bs.length ≤ 20) (w : World) (hg : g < w.heap.size) (hc : ∀ j u, (by8 bs)[j]? = some u → w.cell? ⟨g, o + j, none⟩ = some u)
    (HRB : Hid (r.right = true)) (c3 : r.px = 0) (hh : r.ht = false) (b0 : Nat) (hb0 : bs.getD 0 0 = b0)  (n221 : ((b0 : Int) == 221) = false) (n253 : ((b0 : Int) == 253) = false) (n203 : ((b0 : Int) == 203) = false) (n237 : ((b0 : Int) == 237) = false) (hT : Tabs w) :
    Calls Tryz.prog 7 #[r.v, .slice (some ⟨g, o, none⟩) bs.length cc] w fun e w' => e = .returned (.bool true) ∧ Below w.heap.size w w' := by
  have HT := Lib.hid hT
  have HR := Lib.hid hr
  have hR : Hid (Rd w (.slice (some ⟨g, o, none⟩) bs.length cc) (by8 bs)) := Lib.hid (.inr (.inr ⟨g, o, cc, by rw [by8_length], hg, hc⟩))
  have HRD : ∀ l, Hid (Reads w l (some ⟨g, o, none⟩) bs) := fun l => Lib.hid (reads_rd hb hg hc)
  have c0 : w.cell? ⟨g, o, none⟩ = some (.int .u8 (b0 : Int)) := by
    have := hc 0 (.int .u8 (b0 : Int)) (by rw [by8_get bs 0 (by omega), hb0])
    exact this
  have HB8 := Lib.hid hb
  obtain ⟨t, ht⟩ : ∃ t, Hid ((rName bs).1 = t) := ⟨_, rfl⟩
  obtain ⟨ln, hln⟩ : ∃ ln, Hid ((rName bs).2 = ln) := ⟨_, rfl⟩
  have ltx : t.length ≤ 400 := by rw [← ht.out]; exact rname_len bs hb
  have hpc := hr.pc
  have HL : Hid (LaidAt (lay (bas 0) r.pc bs) r.pc bs) := Lib.hid (laid_lay 0 r.pc bs hpc h4 h20)
  have HBX : ∀ (W : World) (l : Blocks) (h : Hid (Own w W l)), Calls Tryz.prog 14 #[.int .u16 (r.pc : Int), .slice (some ⟨g, o, none⟩) bs.length cc, .int .u8 0] W fun e w' => ∃ b, e = .returned (.pointer (some ⟨b, 0, none⟩)) ∧ Hid (Bx w w' b ⟨lay (bas 0) r.pc bs, []⟩ l 1000000) :=
    fun W l h => box_at (W0 := w) r.pc 0 cc bs (some ⟨g, o, none⟩) hpc (by omega) (HRD l) h
  obtain ⟨n, hn⟩ : ∃ n, bs.length = n := ⟨_, rfl⟩
  have HNM := fun (W : World) (h : Rd W (.slice (some ⟨g, o, none⟩) bs.length cc) (by8 bs)) => rname_n _ bs (by omega) hb t ln ht hln W h
  simp only [hn] at h4 h20 hR HBX HNM ⊢
  have h4i : decide ((n : Int) < 4) = false := decide_eq_false (by omega)
  have h20i : decide ((20 : Int) < (n : Int)) = false := decide_eq_false (by omega)
  have h0i : 0 < (n : Int) := by omega
  have c3i : ((r.px : Int) != 0) = false := by rw [c3]; rfl
  have HBX := Lib.hid HBX
  have HNM := Lib.hid HNM
  have HPX := Lib.hid c3
  have HH0 := Lib.hid hb0
  have q221 := Lib.hid (show ¬ (b0 : Int) = 221 by simpa using n221)
  have q253 := Lib.hid (show ¬ (b0 : Int) = 253 by simpa using n253)
  have q203 := Lib.hid (show ¬ (b0 : Int) = 203 by simpa using n203)
  have q237 := Lib.hid (show ¬ (b0 : Int) = 237 by simpa using n237)
  clear hT hb hc hb0 hpc HRD hn h4 h20 c3
  have HM := Lib.hid (Own.start w)
  have tg1 : Hid True := trivial
  have tg2 : Hid True := trivial
  have tg3 : Hid True := trivial
  go_enter Tryz.func7, Tryz.ntmps7
  go_upto_region 6 with (first
    | (exact absurd (hh.symm.trans (by with_reducible assumption : r.ht = true)) Bool.noConfusion) | ((with_reducible apply own_box HM); exact rfl; (conv => lhs; whnf); exact rfl; exact rfl; (first | (clear tg1 HM; intro w' g1 HM) | (clear tg2 HM; intro w' g2 HM) | (clear tg3 HM; intro w' g3 HM) | (clear tg4 HM; intro w' g4 HM) | (clear HM; intro w' g' HM))) | ((with_reducible apply own_row HM); exact rfl; exact rfl; exact aggR; exact sS; exact rfl; exact lS) | ((with_reducible apply own_get HM); exact rfl; exact rfl; exact oS; exact sS; (conv => lhs; whnf); exact rfl) | (go_at_call 16; (with_reducible refine (cpuAlive_any _ (Tabs.own HT HM)).mono ?_); rintro e w' ⟨rfl, hb⟩; replace HM := Lib.hid (HM.out.call hb); clear hb) | (go_at_call 17; (with_reducible refine (rrightRegs r _ HRB _).mono ?_); rintro e w' ⟨rfl, hb⟩; replace HM := Lib.hid (HM.out.call hb); clear hb)
    | (go_at_call 22; (with_reducible refine (HNM.out _ (Rd.own hR HM)).mono ?_); rintro e w' ⟨rfl, hb⟩; replace HM := Lib.hid (HM.out.call hb); clear hb))
  go_upto_region 7 with (first
    | ((with_reducible apply own_made (cs := mvS.map fun t => Value.string ⟨t.toArray⟩) (e := 9) (n := 10) HM); exact rfl; exact made10; (focus (go_simp; done)); exact rfl; clear tg2; intro w' g2 HM'; clear HM; have HM := HM'; clear HM'))
  go_loopw [8, 46] (fun s i wr => ∃ k : Nat, k ≤ 10 ∧ i = .int .i64 (k : Int) ∧ (∀ j, j < k → rHas t (mvS.getD j []) = false) ∧ Hid (Own w wr [(g2, 9, mvS.map fun t => Value.string ⟨t.toArray⟩), (g1, 25, r.cells)])) (fun _ i _ => 10 - (intOf i).toNat)
  case atStart => exact ⟨0, by omega, rfl, fun j hj => absurd hj (by omega), HM⟩
  case round =>
    clear HM
    obtain ⟨k, hk, rfl, HN, HM⟩ := hrel
    by_cases hlt : k < 10
    · have hlt' : (k : Int) < 10 := by omega
      obtain ⟨m, hm⟩ : ∃ m, mvS.getD k [] = m := ⟨_, rfl⟩
      have HMk := Lib.hid (mv_cell k hlt)
      obtain ⟨p1, p2⟩ := mv_piece k hlt
      rw [hm] at HMk p1 p2
      obtain ⟨B, hB⟩ : ∃ B, Hid (rHas t m = B) := ⟨_, rfl⟩
      have HN' := Lib.hid HN
      clear HN
      cases B
      · go_wp2_with (first
          | ((with_reducible apply own_get HM); exact rfl; exact rfl; (with_reducible exact oneStr); (with_reducible exact .z); exact HMk.out; exact rfl)
          | (go_at_call 23; (with_reducible refine (has_n t m _ ltx p1 p2 hB _).mono ?_); rintro e w' ⟨rfl, hb⟩; replace HM := Lib.hid (HM.out.call hb); clear hb))
        go_roundw
        case rel =>
          refine ⟨k + 1, by omega, by go_num, fun j hj => ?_, HM⟩
          by_cases e : j = k
          · rw [e, hm]; exact hB.out
          · exact HN'.out j (by omega)
        case measure => simp [intOf]; omega
      · go_wp2_with (first
          | ((with_reducible apply own_get HM); exact rfl; exact rfl; (with_reducible exact oneStr); (with_reducible exact .z); exact HMk.out; exact rfl)
          | (go_at_call 23; (with_reducible refine (has_n t m _ ltx p1 p2 hB _).mono ?_); rintro e w' ⟨rfl, hb⟩; replace HM := Lib.hid (HM.out.call hb); clear hb))
        go_ret
        exact ⟨rfl, Own.fin HM⟩
    · obtain rfl : k = 10 := by omega
      have HNO := Lib.hid (mv_all t HN)
      clear HN hk hlt
      have HNO' : ∀ m ∈ mvS, rHas (rName bs).1 m = false := by rw [ht.out]; exact HNO.out
      obtain ⟨u, hu⟩ : ∃ u : U, Hid (u = ⟨lay (bas 0) r.pc bs, []⟩) := ⟨_, rfl⟩
      have hLu : LaidAt u.m r.pc bs := by rw [hu.out]; exact HL.out
      have HE := mv_near r u bs HR.out HPX.out hh HB8.out hLu HNO' (by have := q221.out; have := q253.out; rw [HH0.out]; omega)
      rw [HH0.out, if_neg (by have := q203.out; have := q237.out; omega)] at HE
      obtain ⟨rz, hr1⟩ : ∃ x, Hid (stepR r u = x) := ⟨_, rfl⟩
      obtain ⟨u1, hu1⟩ : ∃ x, Hid (stepU r u = x) := ⟨_, rfl⟩
      obtain ⟨k1, K1⟩ : ∃ x, Hid (stepN r u = x) := ⟨_, rfl⟩
      rw [hr1.out, K1.out] at HE
      obtain ⟨E1, E2, E3⟩ := HE
      have rr := HR.out.r
      have E2' : rz.r = tk r.r := by rcases E2 with ⟨h, h'⟩ | ⟨h, h'⟩; exact h'; exact absurd h (by decide)
      have tr : rz.r < 256 := by rw [E2']; exact tk_lt _ rr
      have tt := tk_one r.r rr
      rw [← E2'] at tt
      have ln4 : ln ≤ 4 := by rw [← hln.out, ← name_same bs HB8.out]; exact (name_len bs HB8.out).2
      have f1 : IntKind.u16.wrap (ln : Int) = (ln : Int) := by rw [IntKind.wrap_u16]; omega
      have f2 : IntKind.u16.wrap ((r.pc : Int) + (ln : Int)) = (rz.pc : Int) := by
        have e := E1
        rw [hln.out] at e
        rw [IntKind.wrap_u16, e]; omega
      obtain ⟨dd, hdd⟩ : ∃ dd, (rz.r + 256 - r.r) % 256 = dd := ⟨_, rfl⟩
      have f3 : IntKind.u8.wrap ((rz.r : Int) - (r.r : Int)) = (dd : Int) := by rw [IntKind.wrap_u8]; omega
      have f4 : bits .and .u8 (dd : Int) 127 = 1 := by rw [low7 dd (by omega), ← hdd, tt.1]; rfl
      obtain ⟨hi, hhi⟩ : ∃ hi, r.r / 128 * 128 = hi := ⟨_, rfl⟩
      have f5 : bits .and .u8 (rz.r : Int) 128 = (hi : Int) := by rw [high1 _ tr, tt.2, hhi]
      have f6 : bits .and .u8 (r.r : Int) 128 = (hi : Int) := by rw [high1 _ rr, hhi]
      have f7 : 4 ≤ (k1 : Int) := by omega
      have b1 : (k1 : Int) ≤ 23 := by rw [← K1.out]; exact Int.ofNat_le.2 (Cs.few_step _).2
      clear E1 E2 E2' E3 tt tr rr hdd hhi ln4 HNO' hLu HNO ht hln
      go_upto_region 15 with (first
        | ((with_reducible apply own_row HM); exact rfl; exact rfl; exact aggR; exact sS; exact rfl; exact lS) | ((with_reducible apply own_lay HM); exact rfl; exact rfl; exact rfl; exact sS; exact sS; exact aggR.size; exact lS; exact lS; (first | exact Rg.one1 _ | exact rfl); exact rfl; exact rfl; clear HM; intro w' HM) | ((with_reducible apply own_old HM); exact rfl; exact rfl; (with_reducible exact oneU8); (first | (with_reducible exact c0) | exact c0); exact rfl; exact rfl)
        | ((with_reducible apply own_alloc HM); exact rfl; (with_reducible exact zeroR); exact rfl; clear tg3; intro w' g3 HM'; clear HM; have HM := HM'; clear HM'))
      go_upto_region 16 with (first
        | ((with_reducible apply own_get HM); exact rfl; exact rfl; exact oS; exact sS; (conv => lhs; whnf); exact rfl)
        | (go_at_call 14; (with_reducible refine (HBX.out _ _ HM).mono ?_); rintro e w' ⟨b, rfl, hB⟩; have HB := hB; clear HM hB))
      rw [← hu.out] at HB
      obtain ⟨HG, X, HX, HM⟩ := HB.out.hid3
      clear HB hu
      go_upto_region 17 with (first
        | ((with_reducible apply own_row HM); exact rfl; exact rfl; exact aggR; exact sS; exact rfl; exact lS) | ((with_reducible apply own_lay HM); exact rfl; exact rfl; exact rfl; exact sS; exact sS; exact aggR.size; exact lS; exact lS; (first | exact Rg.one1 _ | exact rfl); exact rfl; exact rfl; clear HM; intro w' HM)
        | (go_at_call 13; have hbx : Hid (Bx _ _ b _ [_, _, _] (999994 + 6)) := Lib.hid ⟨HG.out, X, HX.out, HM.out⟩; (with_reducible refine (step_to HT HR hr1 K1 hu1 hbx).mono ?_); clear hbx; rintro e w' ⟨rfl, HR1, hB⟩; clear HM HG HX; obtain ⟨HG, X, HX, HM⟩ := hB.out.hid3))
      go_upto_region 25 with (first | ((with_reducible apply own_old HM); exact rfl; exact rfl; (with_reducible exact oneU8); (first | (with_reducible exact c0) | exact c0); exact rfl; exact rfl))
      go_wp2_with (first | ((with_reducible apply own_get HM); exact rfl; exact rfl; exact oS; exact sS; (conv => lhs; whnf); exact rfl))
      go_ret
      exact ⟨rfl, Own.fin HM⟩
set_option maxRecDepth 100000 in
set_option maxHeartbeats 3200000 in
theorem moves_cb (r : Rg) (hr : r.Fits) (bs : List Nat) (g o cc : Nat) (hb : ∀ i, bs.getD i 0 < 256) (h4 : 4 ≤ bs.length) (h20 : bs.length ≤ 20) (w : World) (hg : g < w.heap.size) (hc : ∀ j u, (by8 bs)[j]? = some u → w.cell? ⟨g, o + j, none⟩ = some u)
    (HRB : Hid (r.right = true)) (c3 : r.px = 0) (hh : r.ht = false) (b0 : Nat) (hb0 : bs.getD 0 0 = b0) (y : ((b0 : Int) == 203) = true) (n221 : ((b0 : Int) == 221) = false) (n253 : ((b0 : Int) == 253) = false) (n237 : ((b0 : Int) == 237) = false) (hT : Tabs w) :
    Calls Tryz.prog 7 #[r.v, .slice (some ⟨g, o, none⟩) bs.length cc] w fun e w' => e = .returned (.bool true) ∧ Below w.heap.size w w' := by
  have HT := Lib.hid hT
  have HR := Lib.hid hr
  have hR : Hid (Rd w (.slice (some ⟨g, o, none⟩) bs.length cc) (by8 bs)) := Lib.hid (.inr (.inr ⟨g, o, cc, by rw [by8_length], hg, hc⟩))
  have HRD : ∀ l, Hid (Reads w l (some ⟨g, o, none⟩) bs) := fun l => Lib.hid (reads_rd hb hg hc)
  have c0 : w.cell? ⟨g, o, none⟩ = some (.int .u8 (b0 : Int)) := by
    have := hc 0 (.int .u8 (b0 : Int)) (by rw [by8_get bs 0 (by omega), hb0])
    exact this
  have HB8 := Lib.hid hb
  obtain ⟨t, ht⟩ : ∃ t, Hid ((rName bs).1 = t) := ⟨_, rfl⟩
  obtain ⟨ln, hln⟩ : ∃ ln, Hid ((rName bs).2 = ln) := ⟨_, rfl⟩
  have ltx : t.length ≤ 400 := by rw [← ht.out]; exact rname_len bs hb
  have hpc := hr.pc
  have HL : Hid (LaidAt (lay (bas 0) r.pc bs) r.pc bs) := Lib.hid (laid_lay 0 r.pc bs hpc h4 h20)
  have HBX : ∀ (W : World) (l : Blocks) (h : Hid (Own w W l)), Calls Tryz.prog 14 #[.int .u16 (r.pc : Int), .slice (some ⟨g, o, none⟩) bs.length cc, .int .u8 0] W fun e w' => ∃ b, e = .returned (.pointer (some ⟨b, 0, none⟩)) ∧ Hid (Bx w w' b ⟨lay (bas 0) r.pc bs, []⟩ l 1000000) :=
    fun W l h => box_at (W0 := w) r.pc 0 cc bs (some ⟨g, o, none⟩) hpc (by omega) (HRD l) h
  obtain ⟨n, hn⟩ : ∃ n, bs.length = n := ⟨_, rfl⟩
  have HNM := fun (W : World) (h : Rd W (.slice (some ⟨g, o, none⟩) bs.length cc) (by8 bs)) => rname_n _ bs (by omega) hb t ln ht hln W h
  simp only [hn] at h4 h20 hR HBX HNM ⊢
  have h4i : decide ((n : Int) < 4) = false := decide_eq_false (by omega)
  have h20i : decide ((20 : Int) < (n : Int)) = false := decide_eq_false (by omega)
  have h0i : 0 < (n : Int) := by omega
  have c3i : ((r.px : Int) != 0) = false := by rw [c3]; rfl
  have HBX := Lib.hid HBX
  have HNM := Lib.hid HNM
  have HPX := Lib.hid c3
  have HH0 := Lib.hid hb0
  have q203 := Lib.hid (show (b0 : Int) = 203 by simpa using y)
  have q221 := Lib.hid (show ¬ (b0 : Int) = 221 by simpa using n221)
  have q253 := Lib.hid (show ¬ (b0 : Int) = 253 by simpa using n253)
  have q237 := Lib.hid (show ¬ (b0 : Int) = 237 by simpa using n237)
  clear hT hb hc hb0 hpc HRD hn h4 h20 c3
  have HM := Lib.hid (Own.start w)
  have tg1 : Hid True := trivial
  have tg2 : Hid True := trivial
  have tg3 : Hid True := trivial
  go_enter Tryz.func7, Tryz.ntmps7
  go_upto_region 6 with (first
    | (exact absurd (hh.symm.trans (by with_reducible assumption : r.ht = true)) Bool.noConfusion) | ((with_reducible apply own_box HM); exact rfl; (conv => lhs; whnf); exact rfl; exact rfl; (first | (clear tg1 HM; intro w' g1 HM) | (clear tg2 HM; intro w' g2 HM) | (clear tg3 HM; intro w' g3 HM) | (clear tg4 HM; intro w' g4 HM) | (clear HM; intro w' g' HM))) | ((with_reducible apply own_row HM); exact rfl; exact rfl; exact aggR; exact sS; exact rfl; exact lS) | ((with_reducible apply own_get HM); exact rfl; exact rfl; exact oS; exact sS; (conv => lhs; whnf); exact rfl) | (go_at_call 16; (with_reducible refine (cpuAlive_any _ (Tabs.own HT HM)).mono ?_); rintro e w' ⟨rfl, hb⟩; replace HM := Lib.hid (HM.out.call hb); clear hb) | (go_at_call 17; (with_reducible refine (rrightRegs r _ HRB _).mono ?_); rintro e w' ⟨rfl, hb⟩; replace HM := Lib.hid (HM.out.call hb); clear hb)
    | (go_at_call 22; (with_reducible refine (HNM.out _ (Rd.own hR HM)).mono ?_); rintro e w' ⟨rfl, hb⟩; replace HM := Lib.hid (HM.out.call hb); clear hb))
  go_upto_region 7 with (first
    | ((with_reducible apply own_made (cs := mvS.map fun t => Value.string ⟨t.toArray⟩) (e := 9) (n := 10) HM); exact rfl; exact made10; (focus (go_simp; done)); exact rfl; clear tg2; intro w' g2 HM'; clear HM; have HM := HM'; clear HM'))
  go_loopw [8, 46] (fun s i wr => ∃ k : Nat, k ≤ 10 ∧ i = .int .i64 (k : Int) ∧ (∀ j, j < k → rHas t (mvS.getD j []) = false) ∧ Hid (Own w wr [(g2, 9, mvS.map fun t => Value.string ⟨t.toArray⟩), (g1, 25, r.cells)])) (fun _ i _ => 10 - (intOf i).toNat)
  case atStart => exact ⟨0, by omega, rfl, fun j hj => absurd hj (by omega), HM⟩
  case round =>
    clear HM
    obtain ⟨k, hk, rfl, HN, HM⟩ := hrel
    by_cases hlt : k < 10
    · have hlt' : (k : Int) < 10 := by omega
      obtain ⟨m, hm⟩ : ∃ m, mvS.getD k [] = m := ⟨_, rfl⟩
      have HMk := Lib.hid (mv_cell k hlt)
      obtain ⟨p1, p2⟩ := mv_piece k hlt
      rw [hm] at HMk p1 p2
      obtain ⟨B, hB⟩ : ∃ B, Hid (rHas t m = B) := ⟨_, rfl⟩
      have HN' := Lib.hid HN
      clear HN
      cases B
      · go_wp2_with (first
          | ((with_reducible apply own_get HM); exact rfl; exact rfl; (with_reducible exact oneStr); (with_reducible exact .z); exact HMk.out; exact rfl)
          | (go_at_call 23; (with_reducible refine (has_n t m _ ltx p1 p2 hB _).mono ?_); rintro e w' ⟨rfl, hb⟩; replace HM := Lib.hid (HM.out.call hb); clear hb))
        go_roundw
        case rel =>
          refine ⟨k + 1, by omega, by go_num, fun j hj => ?_, HM⟩
          by_cases e : j = k
          · rw [e, hm]; exact hB.out
          · exact HN'.out j (by omega)
        case measure => simp [intOf]; omega
      · go_wp2_with (first
          | ((with_reducible apply own_get HM); exact rfl; exact rfl; (with_reducible exact oneStr); (with_reducible exact .z); exact HMk.out; exact rfl)
          | (go_at_call 23; (with_reducible refine (has_n t m _ ltx p1 p2 hB _).mono ?_); rintro e w' ⟨rfl, hb⟩; replace HM := Lib.hid (HM.out.call hb); clear hb))
        go_ret
        exact ⟨rfl, Own.fin HM⟩
    · obtain rfl : k = 10 := by omega
      have HNO := Lib.hid (mv_all t HN)
      clear HN hk hlt
      have HNO' : ∀ m ∈ mvS, rHas (rName bs).1 m = false := by rw [ht.out]; exact HNO.out
      obtain ⟨u, hu⟩ : ∃ u : U, Hid (u = ⟨lay (bas 0) r.pc bs, []⟩) := ⟨_, rfl⟩
      have hLu : LaidAt u.m r.pc bs := by rw [hu.out]; exact HL.out
      have HE := mv_near r u bs HR.out HPX.out hh HB8.out hLu HNO' (by have := q221.out; have := q253.out; rw [HH0.out]; omega)
      rw [HH0.out, if_pos (by have := q203.out; have := q237.out; omega)] at HE
      obtain ⟨rz, hr1⟩ : ∃ x, Hid (stepR r u = x) := ⟨_, rfl⟩
      obtain ⟨u1, hu1⟩ : ∃ x, Hid (stepU r u = x) := ⟨_, rfl⟩
      obtain ⟨k1, K1⟩ : ∃ x, Hid (stepN r u = x) := ⟨_, rfl⟩
      rw [hr1.out, K1.out] at HE
      obtain ⟨E1, E2, E3⟩ := HE
      have rr := HR.out.r
      have E2' : rz.r = tk (tk r.r) := by rcases E2 with ⟨h, h'⟩ | ⟨h, h'⟩; exact absurd h (by decide); exact h'
      have tr : rz.r < 256 := by rw [E2']; exact tk_lt _ (tk_lt _ rr)
      have tt := tk_two r.r rr
      rw [← E2'] at tt
      have ln4 : ln ≤ 4 := by rw [← hln.out, ← name_same bs HB8.out]; exact (name_len bs HB8.out).2
      have f1 : IntKind.u16.wrap (ln : Int) = (ln : Int) := by rw [IntKind.wrap_u16]; omega
      have f2 : IntKind.u16.wrap ((r.pc : Int) + (ln : Int)) = (rz.pc : Int) := by
        have e := E1
        rw [hln.out] at e
        rw [IntKind.wrap_u16, e]; omega
      obtain ⟨dd, hdd⟩ : ∃ dd, (rz.r + 256 - r.r) % 256 = dd := ⟨_, rfl⟩
      have f3 : IntKind.u8.wrap ((rz.r : Int) - (r.r : Int)) = (dd : Int) := by rw [IntKind.wrap_u8]; omega
      have f4 : bits .and .u8 (dd : Int) 127 = 2 := by rw [low7 dd (by omega), ← hdd, tt.1]; rfl
      obtain ⟨hi, hhi⟩ : ∃ hi, r.r / 128 * 128 = hi := ⟨_, rfl⟩
      have f5 : bits .and .u8 (rz.r : Int) 128 = (hi : Int) := by rw [high1 _ tr, tt.2, hhi]
      have f6 : bits .and .u8 (r.r : Int) 128 = (hi : Int) := by rw [high1 _ rr, hhi]
      have f7 : 8 ≤ (k1 : Int) := by omega
      have b1 : (k1 : Int) ≤ 23 := by rw [← K1.out]; exact Int.ofNat_le.2 (Cs.few_step _).2
      clear E1 E2 E2' E3 tt tr rr hdd hhi ln4 HNO' hLu HNO ht hln
      go_upto_region 15 with (first
        | ((with_reducible apply own_row HM); exact rfl; exact rfl; exact aggR; exact sS; exact rfl; exact lS) | ((with_reducible apply own_lay HM); exact rfl; exact rfl; exact rfl; exact sS; exact sS; exact aggR.size; exact lS; exact lS; (first | exact Rg.one1 _ | exact rfl); exact rfl; exact rfl; clear HM; intro w' HM) | ((with_reducible apply own_old HM); exact rfl; exact rfl; (with_reducible exact oneU8); (first | (with_reducible exact c0) | exact c0); exact rfl; exact rfl)
        | ((with_reducible apply own_alloc HM); exact rfl; (with_reducible exact zeroR); exact rfl; clear tg3; intro w' g3 HM'; clear HM; have HM := HM'; clear HM'))
      go_upto_region 16 with (first
        | ((with_reducible apply own_get HM); exact rfl; exact rfl; exact oS; exact sS; (conv => lhs; whnf); exact rfl)
        | (go_at_call 14; (with_reducible refine (HBX.out _ _ HM).mono ?_); rintro e w' ⟨b, rfl, hB⟩; have HB := hB; clear HM hB))
      rw [← hu.out] at HB
      obtain ⟨HG, X, HX, HM⟩ := HB.out.hid3
      clear HB hu
      go_upto_region 17 with (first
        | ((with_reducible apply own_row HM); exact rfl; exact rfl; exact aggR; exact sS; exact rfl; exact lS) | ((with_reducible apply own_lay HM); exact rfl; exact rfl; exact rfl; exact sS; exact sS; exact aggR.size; exact lS; exact lS; (first | exact Rg.one1 _ | exact rfl); exact rfl; exact rfl; clear HM; intro w' HM)
        | (go_at_call 13; have hbx : Hid (Bx _ _ b _ [_, _, _] (999994 + 6)) := Lib.hid ⟨HG.out, X, HX.out, HM.out⟩; (with_reducible refine (step_to HT HR hr1 K1 hu1 hbx).mono ?_); clear hbx; rintro e w' ⟨rfl, HR1, hB⟩; clear HM HG HX; obtain ⟨HG, X, HX, HM⟩ := hB.out.hid3))
      go_upto_region 25 with (first | ((with_reducible apply own_old HM); exact rfl; exact rfl; (with_reducible exact oneU8); (first | (with_reducible exact c0) | exact c0); exact rfl; exact rfl))
      go_wp2_with (first | ((with_reducible apply own_get HM); exact rfl; exact rfl; exact oS; exact sS; (conv => lhs; whnf); exact rfl))
      go_ret
      exact ⟨rfl, Own.fin HM⟩
set_option maxRecDepth 100000 in
set_option maxHeartbeats 3200000 in
theorem moves_ed (r : Rg) (hr : r.Fits) (bs : List Nat) (g o cc : Nat) (hb : ∀ i, bs.getD i 0 < 256) (h4 : 4 ≤ bs.length) (h20 : bs.length ≤ 20) (w : World) (hg : g < w.heap.size) (hc : ∀ j u, (by8 bs)[j]? = some u → w.cell? ⟨g, o + j, none⟩ = some u)
    (HRB : Hid (r.right = true)) (c3 : r.px = 0) (hh : r.ht = false) (b0 : Nat) (hb0 : bs.getD 0 0 = b0) (y : ((b0 : Int) == 237) = true) (n221 : ((b0 : Int) == 221) = false) (n253 : ((b0 : Int) == 253) = false) (n203 : ((b0 : Int) == 203) = false) (hT : Tabs w) :
    Calls Tryz.prog 7 #[r.v, .slice (some ⟨g, o, none⟩) bs.length cc] w fun e w' => e = .returned (.bool true) ∧ Below w.heap.size w w' := by
  have HT := Lib.hid hT
  have HR := Lib.hid hr
  have hR : Hid (Rd w (.slice (some ⟨g, o, none⟩) bs.length cc) (by8 bs)) := Lib.hid (.inr (.inr ⟨g, o, cc, by rw [by8_length], hg, hc⟩))
  have HRD : ∀ l, Hid (Reads w l (some ⟨g, o, none⟩) bs) := fun l => Lib.hid (reads_rd hb hg hc)
  have c0 : w.cell? ⟨g, o, none⟩ = some (.int .u8 (b0 : Int)) := by
    have := hc 0 (.int .u8 (b0 : Int)) (by rw [by8_get bs 0 (by omega), hb0])
    exact this
  have HB8 := Lib.hid hb
  obtain ⟨t, ht⟩ : ∃ t, Hid ((rName bs).1 = t) := ⟨_, rfl⟩
  obtain ⟨ln, hln⟩ : ∃ ln, Hid ((rName bs).2 = ln) := ⟨_, rfl⟩
  have ltx : t.length ≤ 400 := by rw [← ht.out]; exact rname_len bs hb
  have hpc := hr.pc
  have HL : Hid (LaidAt (lay (bas 0) r.pc bs) r.pc bs) := Lib.hid (laid_lay 0 r.pc bs hpc h4 h20)
  have HBX : ∀ (W : World) (l : Blocks) (h : Hid (Own w W l)), Calls Tryz.prog 14 #[.int .u16 (r.pc : Int), .slice (some ⟨g, o, none⟩) bs.length cc, .int .u8 0] W fun e w' => ∃ b, e = .returned (.pointer (some ⟨b, 0, none⟩)) ∧ Hid (Bx w w' b ⟨lay (bas 0) r.pc bs, []⟩ l 1000000) :=
    fun W l h => box_at (W0 := w) r.pc 0 cc bs (some ⟨g, o, none⟩) hpc (by omega) (HRD l) h
  obtain ⟨n, hn⟩ : ∃ n, bs.length = n := ⟨_, rfl⟩
  have HNM := fun (W : World) (h : Rd W (.slice (some ⟨g, o, none⟩) bs.length cc) (by8 bs)) => rname_n _ bs (by omega) hb t ln ht hln W h
  simp only [hn] at h4 h20 hR HBX HNM ⊢
  have h4i : decide ((n : Int) < 4) = false := decide_eq_false (by omega)
  have h20i : decide ((20 : Int) < (n : Int)) = false := decide_eq_false (by omega)
  have h0i : 0 < (n : Int) := by omega
  have c3i : ((r.px : Int) != 0) = false := by rw [c3]; rfl
  have HBX := Lib.hid HBX
  have HNM := Lib.hid HNM
  have HPX := Lib.hid c3
  have HH0 := Lib.hid hb0
  have q237 := Lib.hid (show (b0 : Int) = 237 by simpa using y)
  have q221 := Lib.hid (show ¬ (b0 : Int) = 221 by simpa using n221)
  have q253 := Lib.hid (show ¬ (b0 : Int) = 253 by simpa using n253)
  have q203 := Lib.hid (show ¬ (b0 : Int) = 203 by simpa using n203)
  clear hT hb hc hb0 hpc HRD hn h4 h20 c3
  have HM := Lib.hid (Own.start w)
  have tg1 : Hid True := trivial
  have tg2 : Hid True := trivial
  have tg3 : Hid True := trivial
  go_enter Tryz.func7, Tryz.ntmps7
  go_upto_region 6 with (first
    | (exact absurd (hh.symm.trans (by with_reducible assumption : r.ht = true)) Bool.noConfusion) | ((with_reducible apply own_box HM); exact rfl; (conv => lhs; whnf); exact rfl; exact rfl; (first | (clear tg1 HM; intro w' g1 HM) | (clear tg2 HM; intro w' g2 HM) | (clear tg3 HM; intro w' g3 HM) | (clear tg4 HM; intro w' g4 HM) | (clear HM; intro w' g' HM))) | ((with_reducible apply own_row HM); exact rfl; exact rfl; exact aggR; exact sS; exact rfl; exact lS) | ((with_reducible apply own_get HM); exact rfl; exact rfl; exact oS; exact sS; (conv => lhs; whnf); exact rfl) | (go_at_call 16; (with_reducible refine (cpuAlive_any _ (Tabs.own HT HM)).mono ?_); rintro e w' ⟨rfl, hb⟩; replace HM := Lib.hid (HM.out.call hb); clear hb) | (go_at_call 17; (with_reducible refine (rrightRegs r _ HRB _).mono ?_); rintro e w' ⟨rfl, hb⟩; replace HM := Lib.hid (HM.out.call hb); clear hb)
    | (go_at_call 22; (with_reducible refine (HNM.out _ (Rd.own hR HM)).mono ?_); rintro e w' ⟨rfl, hb⟩; replace HM := Lib.hid (HM.out.call hb); clear hb))
  go_upto_region 7 with (first
    | ((with_reducible apply own_made (cs := mvS.map fun t => Value.string ⟨t.toArray⟩) (e := 9) (n := 10) HM); exact rfl; exact made10; (focus (go_simp; done)); exact rfl; clear tg2; intro w' g2 HM'; clear HM; have HM := HM'; clear HM'))
  go_loopw [8, 46] (fun s i wr => ∃ k : Nat, k ≤ 10 ∧ i = .int .i64 (k : Int) ∧ (∀ j, j < k → rHas t (mvS.getD j []) = false) ∧ Hid (Own w wr [(g2, 9, mvS.map fun t => Value.string ⟨t.toArray⟩), (g1, 25, r.cells)])) (fun _ i _ => 10 - (intOf i).toNat)
  case atStart => exact ⟨0, by omega, rfl, fun j hj => absurd hj (by omega), HM⟩
  case round =>
    clear HM
    obtain ⟨k, hk, rfl, HN, HM⟩ := hrel
    by_cases hlt : k < 10
    · have hlt' : (k : Int) < 10 := by omega
      obtain ⟨m, hm⟩ : ∃ m, mvS.getD k [] = m := ⟨_, rfl⟩
      have HMk := Lib.hid (mv_cell k hlt)
      obtain ⟨p1, p2⟩ := mv_piece k hlt
      rw [hm] at HMk p1 p2
      obtain ⟨B, hB⟩ : ∃ B, Hid (rHas t m = B) := ⟨_, rfl⟩
      have HN' := Lib.hid HN
      clear HN
      cases B
      · go_wp2_with (first
          | ((with_reducible apply own_get HM); exact rfl; exact rfl; (with_reducible exact oneStr); (with_reducible exact .z); exact HMk.out; exact rfl)
          | (go_at_call 23; (with_reducible refine (has_n t m _ ltx p1 p2 hB _).mono ?_); rintro e w' ⟨rfl, hb⟩; replace HM := Lib.hid (HM.out.call hb); clear hb))
        go_roundw
        case rel =>
          refine ⟨k + 1, by omega, by go_num, fun j hj => ?_, HM⟩
          by_cases e : j = k
          · rw [e, hm]; exact hB.out
          · exact HN'.out j (by omega)
        case measure => simp [intOf]; omega
      · go_wp2_with (first
          | ((with_reducible apply own_get HM); exact rfl; exact rfl; (with_reducible exact oneStr); (with_reducible exact .z); exact HMk.out; exact rfl)
          | (go_at_call 23; (with_reducible refine (has_n t m _ ltx p1 p2 hB _).mono ?_); rintro e w' ⟨rfl, hb⟩; replace HM := Lib.hid (HM.out.call hb); clear hb))
        go_ret
        exact ⟨rfl, Own.fin HM⟩
    · obtain rfl : k = 10 := by omega
      have HNO := Lib.hid (mv_all t HN)
      clear HN hk hlt
      have HNO' : ∀ m ∈ mvS, rHas (rName bs).1 m = false := by rw [ht.out]; exact HNO.out
      obtain ⟨u, hu⟩ : ∃ u : U, Hid (u = ⟨lay (bas 0) r.pc bs, []⟩) := ⟨_, rfl⟩
      have hLu : LaidAt u.m r.pc bs := by rw [hu.out]; exact HL.out
      have HE := mv_near r u bs HR.out HPX.out hh HB8.out hLu HNO' (by have := q221.out; have := q253.out; rw [HH0.out]; omega)
      rw [HH0.out, if_pos (by have := q203.out; have := q237.out; omega)] at HE
      obtain ⟨rz, hr1⟩ : ∃ x, Hid (stepR r u = x) := ⟨_, rfl⟩
      obtain ⟨u1, hu1⟩ : ∃ x, Hid (stepU r u = x) := ⟨_, rfl⟩
      obtain ⟨k1, K1⟩ : ∃ x, Hid (stepN r u = x) := ⟨_, rfl⟩
      rw [hr1.out, K1.out] at HE
      obtain ⟨E1, E2, E3⟩ := HE
      have rr := HR.out.r
      have E2' : rz.r = tk (tk r.r) := by rcases E2 with ⟨h, h'⟩ | ⟨h, h'⟩; exact absurd h (by decide); exact h'
      have tr : rz.r < 256 := by rw [E2']; exact tk_lt _ (tk_lt _ rr)
      have tt := tk_two r.r rr
      rw [← E2'] at tt
      have ln4 : ln ≤ 4 := by rw [← hln.out, ← name_same bs HB8.out]; exact (name_len bs HB8.out).2
      have f1 : IntKind.u16.wrap (ln : Int) = (ln : Int) := by rw [IntKind.wrap_u16]; omega
      have f2 : IntKind.u16.wrap ((r.pc : Int) + (ln : Int)) = (rz.pc : Int) := by
        have e := E1
        rw [hln.out] at e
        rw [IntKind.wrap_u16, e]; omega
      obtain ⟨dd, hdd⟩ : ∃ dd, (rz.r + 256 - r.r) % 256 = dd := ⟨_, rfl⟩
      have f3 : IntKind.u8.wrap ((rz.r : Int) - (r.r : Int)) = (dd : Int) := by rw [IntKind.wrap_u8]; omega
      have f4 : bits .and .u8 (dd : Int) 127 = 2 := by rw [low7 dd (by omega), ← hdd, tt.1]; rfl
      obtain ⟨hi, hhi⟩ : ∃ hi, r.r / 128 * 128 = hi := ⟨_, rfl⟩
      have f5 : bits .and .u8 (rz.r : Int) 128 = (hi : Int) := by rw [high1 _ tr, tt.2, hhi]
      have f6 : bits .and .u8 (r.r : Int) 128 = (hi : Int) := by rw [high1 _ rr, hhi]
      have f7 : 8 ≤ (k1 : Int) := by omega
      have b1 : (k1 : Int) ≤ 23 := by rw [← K1.out]; exact Int.ofNat_le.2 (Cs.few_step _).2
      clear E1 E2 E2' E3 tt tr rr hdd hhi ln4 HNO' hLu HNO ht hln
      go_upto_region 15 with (first
        | ((with_reducible apply own_row HM); exact rfl; exact rfl; exact aggR; exact sS; exact rfl; exact lS) | ((with_reducible apply own_lay HM); exact rfl; exact rfl; exact rfl; exact sS; exact sS; exact aggR.size; exact lS; exact lS; (first | exact Rg.one1 _ | exact rfl); exact rfl; exact rfl; clear HM; intro w' HM) | ((with_reducible apply own_old HM); exact rfl; exact rfl; (with_reducible exact oneU8); (first | (with_reducible exact c0) | exact c0); exact rfl; exact rfl)
        | ((with_reducible apply own_alloc HM); exact rfl; (with_reducible exact zeroR); exact rfl; clear tg3; intro w' g3 HM'; clear HM; have HM := HM'; clear HM'))
      go_upto_region 16 with (first
        | ((with_reducible apply own_get HM); exact rfl; exact rfl; exact oS; exact sS; (conv => lhs; whnf); exact rfl)
        | (go_at_call 14; (with_reducible refine (HBX.out _ _ HM).mono ?_); rintro e w' ⟨b, rfl, hB⟩; have HB := hB; clear HM hB))
      rw [← hu.out] at HB
      obtain ⟨HG, X, HX, HM⟩ := HB.out.hid3
      clear HB hu
      go_upto_region 17 with (first
        | ((with_reducible apply own_row HM); exact rfl; exact rfl; exact aggR; exact sS; exact rfl; exact lS) | ((with_reducible apply own_lay HM); exact rfl; exact rfl; exact rfl; exact sS; exact sS; exact aggR.size; exact lS; exact lS; (first | exact Rg.one1 _ | exact rfl); exact rfl; exact rfl; clear HM; intro w' HM)
        | (go_at_call 13; have hbx : Hid (Bx _ _ b _ [_, _, _] (999994 + 6)) := Lib.hid ⟨HG.out, X, HX.out, HM.out⟩; (with_reducible refine (step_to HT HR hr1 K1 hu1 hbx).mono ?_); clear hbx; rintro e w' ⟨rfl, HR1, hB⟩; clear HM HG HX; obtain ⟨HG, X, HX, HM⟩ := hB.out.hid3))
      go_upto_region 25 with (first | ((with_reducible apply own_old HM); exact rfl; exact rfl; (with_reducible exact oneU8); (first | (with_reducible exact c0) | exact c0); exact rfl; exact rfl))
      go_wp2_with (first | ((with_reducible apply own_get HM); exact rfl; exact rfl; exact oS; exact sS; (conv => lhs; whnf); exact rfl))
      go_ret
      exact ⟨rfl, Own.fin HM⟩
set_option maxRecDepth 100000 in
set_option maxHeartbeats 3200000 in
theorem moves_dd (r : Rg) (hr : r.Fits) (bs : List Nat) (g o cc : Nat) (hb : ∀ i, bs.getD i 0 < 256) (h4 : 4 ≤ bs.length) (h20 : bs.length ≤ 20) (w : World) (hg : g < w.heap.size) (hc : ∀ j u, (by8 bs)[j]? = some u → w.cell? ⟨g, o + j, none⟩ = some u)
    (HRB : Hid (r.right = true)) (c3 : r.px = 0) (hh : r.ht = false) (b0 : Nat) (hb0 : bs.getD 0 0 = b0) (y : ((b0 : Int) == 221) = true) (n253 : ((b0 : Int) == 253) = false) (n203 : ((b0 : Int) == 203) = false) (n237 : ((b0 : Int) == 237) = false) (hT : Tabs w) :
    Calls Tryz.prog 7 #[r.v, .slice (some ⟨g, o, none⟩) bs.length cc] w fun e w' => e = .returned (.bool true) ∧ Below w.heap.size w w' := by
  have HT := Lib.hid hT
  have HR := Lib.hid hr
  have hR : Hid (Rd w (.slice (some ⟨g, o, none⟩) bs.length cc) (by8 bs)) := Lib.hid (.inr (.inr ⟨g, o, cc, by rw [by8_length], hg, hc⟩))
  have HRD : ∀ l, Hid (Reads w l (some ⟨g, o, none⟩) bs) := fun l => Lib.hid (reads_rd hb hg hc)
  have c0 : w.cell? ⟨g, o, none⟩ = some (.int .u8 (b0 : Int)) := by
    have := hc 0 (.int .u8 (b0 : Int)) (by rw [by8_get bs 0 (by omega), hb0])
    exact this
  have HB8 := Lib.hid hb
  obtain ⟨t, ht⟩ : ∃ t, Hid ((rName bs).1 = t) := ⟨_, rfl⟩
  obtain ⟨ln, hln⟩ : ∃ ln, Hid ((rName bs).2 = ln) := ⟨_, rfl⟩
  have ltx : t.length ≤ 400 := by rw [← ht.out]; exact rname_len bs hb
  have hpc := hr.pc
  have HL : Hid (LaidAt (lay (bas 0) r.pc bs) r.pc bs) := Lib.hid (laid_lay 0 r.pc bs hpc h4 h20)
  have HBX : ∀ (W : World) (l : Blocks) (h : Hid (Own w W l)), Calls Tryz.prog 14 #[.int .u16 (r.pc : Int), .slice (some ⟨g, o, none⟩) bs.length cc, .int .u8 0] W fun e w' => ∃ b, e = .returned (.pointer (some ⟨b, 0, none⟩)) ∧ Hid (Bx w w' b ⟨lay (bas 0) r.pc bs, []⟩ l 1000000) :=
    fun W l h => box_at (W0 := w) r.pc 0 cc bs (some ⟨g, o, none⟩) hpc (by omega) (HRD l) h
  obtain ⟨n, hn⟩ : ∃ n, bs.length = n := ⟨_, rfl⟩
  have HNM := fun (W : World) (h : Rd W (.slice (some ⟨g, o, none⟩) bs.length cc) (by8 bs)) => rname_n _ bs (by omega) hb t ln ht hln W h
  simp only [hn] at h4 h20 hR HBX HNM ⊢
  have h4i : decide ((n : Int) < 4) = false := decide_eq_false (by omega)
  have h20i : decide ((20 : Int) < (n : Int)) = false := decide_eq_false (by omega)
  have h0i : 0 < (n : Int) := by omega
  have c3i : ((r.px : Int) != 0) = false := by rw [c3]; rfl
  have HBX := Lib.hid HBX
  have HNM := Lib.hid HNM
  have HPX := Lib.hid c3
  have HH0 := Lib.hid hb0
  have q221 := Lib.hid (show (b0 : Int) = 221 by simpa using y)
  have q253 := Lib.hid (show ¬ (b0 : Int) = 253 by simpa using n253)
  have q203 := Lib.hid (show ¬ (b0 : Int) = 203 by simpa using n203)
  have q237 := Lib.hid (show ¬ (b0 : Int) = 237 by simpa using n237)
  clear hT hb hc hb0 hpc HRD hn h4 h20 c3
  have HM := Lib.hid (Own.start w)
  have tg1 : Hid True := trivial
  have tg2 : Hid True := trivial
  have tg3 : Hid True := trivial
  go_enter Tryz.func7, Tryz.ntmps7
  go_upto_region 6 with (first
    | (exact absurd (hh.symm.trans (by with_reducible assumption : r.ht = true)) Bool.noConfusion) | ((with_reducible apply own_box HM); exact rfl; (conv => lhs; whnf); exact rfl; exact rfl; (first | (clear tg1 HM; intro w' g1 HM) | (clear tg2 HM; intro w' g2 HM) | (clear tg3 HM; intro w' g3 HM) | (clear tg4 HM; intro w' g4 HM) | (clear HM; intro w' g' HM))) | ((with_reducible apply own_row HM); exact rfl; exact rfl; exact aggR; exact sS; exact rfl; exact lS) | ((with_reducible apply own_get HM); exact rfl; exact rfl; exact oS; exact sS; (conv => lhs; whnf); exact rfl) | (go_at_call 16; (with_reducible refine (cpuAlive_any _ (Tabs.own HT HM)).mono ?_); rintro e w' ⟨rfl, hb⟩; replace HM := Lib.hid (HM.out.call hb); clear hb) | (go_at_call 17; (with_reducible refine (rrightRegs r _ HRB _).mono ?_); rintro e w' ⟨rfl, hb⟩; replace HM := Lib.hid (HM.out.call hb); clear hb)
    | (go_at_call 22; (with_reducible refine (HNM.out _ (Rd.own hR HM)).mono ?_); rintro e w' ⟨rfl, hb⟩; replace HM := Lib.hid (HM.out.call hb); clear hb))
  go_upto_region 7 with (first
    | ((with_reducible apply own_made (cs := mvS.map fun t => Value.string ⟨t.toArray⟩) (e := 9) (n := 10) HM); exact rfl; exact made10; (focus (go_simp; done)); exact rfl; clear tg2; intro w' g2 HM'; clear HM; have HM := HM'; clear HM'))
  go_loopw [8, 46] (fun s i wr => ∃ k : Nat, k ≤ 10 ∧ i = .int .i64 (k : Int) ∧ (∀ j, j < k → rHas t (mvS.getD j []) = false) ∧ Hid (Own w wr [(g2, 9, mvS.map fun t => Value.string ⟨t.toArray⟩), (g1, 25, r.cells)])) (fun _ i _ => 10 - (intOf i).toNat)
  case atStart => exact ⟨0, by omega, rfl, fun j hj => absurd hj (by omega), HM⟩
  case round =>
    clear HM
    obtain ⟨k, hk, rfl, HN, HM⟩ := hrel
    by_cases hlt : k < 10
    · have hlt' : (k : Int) < 10 := by omega
      obtain ⟨m, hm⟩ : ∃ m, mvS.getD k [] = m := ⟨_, rfl⟩
      have HMk := Lib.hid (mv_cell k hlt)
      obtain ⟨p1, p2⟩ := mv_piece k hlt
      rw [hm] at HMk p1 p2
      obtain ⟨B, hB⟩ : ∃ B, Hid (rHas t m = B) := ⟨_, rfl⟩
      have HN' := Lib.hid HN
      clear HN
      cases B
      · go_wp2_with (first
          | ((with_reducible apply own_get HM); exact rfl; exact rfl; (with_reducible exact oneStr); (with_reducible exact .z); exact HMk.out; exact rfl)
          | (go_at_call 23; (with_reducible refine (has_n t m _ ltx p1 p2 hB _).mono ?_); rintro e w' ⟨rfl, hb⟩; replace HM := Lib.hid (HM.out.call hb); clear hb))
        go_roundw
        case rel =>
          refine ⟨k + 1, by omega, by go_num, fun j hj => ?_, HM⟩
          by_cases e : j = k
          · rw [e, hm]; exact hB.out
          · exact HN'.out j (by omega)
        case measure => simp [intOf]; omega
      · go_wp2_with (first
          | ((with_reducible apply own_get HM); exact rfl; exact rfl; (with_reducible exact oneStr); (with_reducible exact .z); exact HMk.out; exact rfl)
          | (go_at_call 23; (with_reducible refine (has_n t m _ ltx p1 p2 hB _).mono ?_); rintro e w' ⟨rfl, hb⟩; replace HM := Lib.hid (HM.out.call hb); clear hb))
        go_ret
        exact ⟨rfl, Own.fin HM⟩
    · obtain rfl : k = 10 := by omega
      have HNO := Lib.hid (mv_all t HN)
      clear HN hk hlt
      have HNO' : ∀ m ∈ mvS, rHas (rName bs).1 m = false := by rw [ht.out]; exact HNO.out
      obtain ⟨u, hu⟩ : ∃ u : U, Hid (u = ⟨lay (bas 0) r.pc bs, []⟩) := ⟨_, rfl⟩
      have hLu : LaidAt u.m r.pc bs := by rw [hu.out]; exact HL.out
      have HE := mv_far r u bs HR.out HPX.out hh HB8.out hLu HNO' (by have := q221.out; have := q253.out; rw [HH0.out]; omega)
      obtain ⟨r1, hr1⟩ : ∃ x, Hid (stepR r u = x) := ⟨_, rfl⟩
      obtain ⟨u1, hu1⟩ : ∃ x, Hid (stepU r u = x) := ⟨_, rfl⟩
      obtain ⟨k1, K1⟩ : ∃ x, Hid (stepN r u = x) := ⟨_, rfl⟩
      rw [hr1.out, hu1.out, K1.out] at HE
      obtain ⟨rz, hr2⟩ : ∃ x, Hid (stepR r1 u1 = x) := ⟨_, rfl⟩
      obtain ⟨u2, hu2⟩ : ∃ x, Hid (stepU r1 u1 = x) := ⟨_, rfl⟩
      obtain ⟨k2, K2⟩ : ∃ x, Hid (stepN r1 u1 = x) := ⟨_, rfl⟩
      rw [hr2.out, K2.out] at HE
      obtain ⟨E1, E2, E3⟩ := HE
      have rr := HR.out.r
      have E2' : rz.r = tk (tk r.r) := by rcases E2 with ⟨h, h'⟩ | ⟨h, h'⟩; exact absurd h (by decide); exact h'
      have tr : rz.r < 256 := by rw [E2']; exact tk_lt _ (tk_lt _ rr)
      have tt := tk_two r.r rr
      rw [← E2'] at tt
      have ln4 : ln ≤ 4 := by rw [← hln.out, ← name_same bs HB8.out]; exact (name_len bs HB8.out).2
      have f1 : IntKind.u16.wrap (ln : Int) = (ln : Int) := by rw [IntKind.wrap_u16]; omega
      have f2 : IntKind.u16.wrap ((r.pc : Int) + (ln : Int)) = (rz.pc : Int) := by
        have e := E1
        rw [hln.out] at e
        rw [IntKind.wrap_u16, e]; omega
      obtain ⟨dd, hdd⟩ : ∃ dd, (rz.r + 256 - r.r) % 256 = dd := ⟨_, rfl⟩
      have f3 : IntKind.u8.wrap ((rz.r : Int) - (r.r : Int)) = (dd : Int) := by rw [IntKind.wrap_u8]; omega
      have f4 : bits .and .u8 (dd : Int) 127 = 2 := by rw [low7 dd (by omega), ← hdd, tt.1]; rfl
      obtain ⟨hi, hhi⟩ : ∃ hi, r.r / 128 * 128 = hi := ⟨_, rfl⟩
      have f5 : bits .and .u8 (rz.r : Int) 128 = (hi : Int) := by rw [high1 _ tr, tt.2, hhi]
      have f6 : bits .and .u8 (r.r : Int) 128 = (hi : Int) := by rw [high1 _ rr, hhi]
      have f7 : 8 ≤ (k1 : Int) + (k2 : Int) := by omega
      have b1 : (k1 : Int) ≤ 23 := by rw [← K1.out]; exact Int.ofNat_le.2 (Cs.few_step _).2
      have b2 : (k2 : Int) ≤ 23 := by rw [← K2.out]; exact Int.ofNat_le.2 (Cs.few_step _).2
      clear E1 E2 E2' E3 tt tr rr hdd hhi ln4 HNO' hLu HNO ht hln
      go_upto_region 15 with (first
        | ((with_reducible apply own_row HM); exact rfl; exact rfl; exact aggR; exact sS; exact rfl; exact lS) | ((with_reducible apply own_lay HM); exact rfl; exact rfl; exact rfl; exact sS; exact sS; exact aggR.size; exact lS; exact lS; (first | exact Rg.one1 _ | exact rfl); exact rfl; exact rfl; clear HM; intro w' HM) | ((with_reducible apply own_old HM); exact rfl; exact rfl; (with_reducible exact oneU8); (first | (with_reducible exact c0) | exact c0); exact rfl; exact rfl)
        | ((with_reducible apply own_alloc HM); exact rfl; (with_reducible exact zeroR); exact rfl; clear tg3; intro w' g3 HM'; clear HM; have HM := HM'; clear HM'))
      go_upto_region 16 with (first
        | ((with_reducible apply own_get HM); exact rfl; exact rfl; exact oS; exact sS; (conv => lhs; whnf); exact rfl)
        | (go_at_call 14; (with_reducible refine (HBX.out _ _ HM).mono ?_); rintro e w' ⟨b, rfl, hB⟩; have HB := hB; clear HM hB))
      rw [← hu.out] at HB
      obtain ⟨HG, X, HX, HM⟩ := HB.out.hid3
      clear HB hu
      go_upto_region 17 with (first
        | ((with_reducible apply own_row HM); exact rfl; exact rfl; exact aggR; exact sS; exact rfl; exact lS) | ((with_reducible apply own_lay HM); exact rfl; exact rfl; exact rfl; exact sS; exact sS; exact aggR.size; exact lS; exact lS; (first | exact Rg.one1 _ | exact rfl); exact rfl; exact rfl; clear HM; intro w' HM)
        | (go_at_call 13; have hbx : Hid (Bx _ _ b _ [_, _, _] (999994 + 6)) := Lib.hid ⟨HG.out, X, HX.out, HM.out⟩; (with_reducible refine (step_to HT HR hr1 K1 hu1 hbx).mono ?_); clear hbx; rintro e w' ⟨rfl, HR1, hB⟩; clear HM HG HX; obtain ⟨HG, X, HX, HM⟩ := hB.out.hid3))
      go_upto_region 21 with (first
        | ((with_reducible apply own_row HM); exact rfl; exact rfl; exact aggR; exact sS; exact rfl; exact lS) | ((with_reducible apply own_lay HM); exact rfl; exact rfl; exact rfl; exact sS; exact sS; exact aggR.size; exact lS; exact lS; (first | exact Rg.one1 _ | exact rfl); exact rfl; exact rfl; clear HM; intro w' HM)
        | (go_at_call 13; have hbx : Hid (Bx _ _ b _ [_, _, _] (999988 + 6)) := Lib.hid ⟨HG.out, X, HX.out, HM.out⟩; (with_reducible refine (step_to HT HR1 hr2 K2 hu2 hbx).mono ?_); clear hbx; rintro e w' ⟨rfl, HR2, hB⟩; clear HM HG HX; obtain ⟨HG, X, HX, HM⟩ := hB.out.hid3))
      go_upto_region 25 with (first | ((with_reducible apply own_old HM); exact rfl; exact rfl; (with_reducible exact oneU8); (first | (with_reducible exact c0) | exact c0); exact rfl; exact rfl))
      go_wp2_with (first | ((with_reducible apply own_get HM); exact rfl; exact rfl; exact oS; exact sS; (conv => lhs; whnf); exact rfl))
      go_ret
      exact ⟨rfl, Own.fin HM⟩
set_option maxRecDepth 100000 in
set_option maxHeartbeats 3200000 in
theorem moves_fd (r : Rg) (hr : r.Fits) (bs : List Nat) (g o cc : Nat) (hb : ∀ i, bs.getD i 0 < 256) (h4 : 4 ≤ bs.length) (h20 : bs.length ≤ 20) (w : World) (hg : g < w.heap.size) (hc : ∀ j u, (by8 bs)[j]? = some u → w.cell? ⟨g, o + j, none⟩ = some u)
    (HRB : Hid (r.right = true)) (c3 : r.px = 0) (hh : r.ht = false) (b0 : Nat) (hb0 : bs.getD 0 0 = b0) (y : ((b0 : Int) == 253) = true) (n221 : ((b0 : Int) == 221) = false) (n203 : ((b0 : Int) == 203) = false) (n237 : ((b0 : Int) == 237) = false) (hT : Tabs w) :
    Calls Tryz.prog 7 #[r.v, .slice (some ⟨g, o, none⟩) bs.length cc] w fun e w' => e = .returned (.bool true) ∧ Below w.heap.size w w' := by
  have HT := Lib.hid hT
  have HR := Lib.hid hr
  have hR : Hid (Rd w (.slice (some ⟨g, o, none⟩) bs.length cc) (by8 bs)) := Lib.hid (.inr (.inr ⟨g, o, cc, by rw [by8_length], hg, hc⟩))
  have HRD : ∀ l, Hid (Reads w l (some ⟨g, o, none⟩) bs) := fun l => Lib.hid (reads_rd hb hg hc)
  have c0 : w.cell? ⟨g, o, none⟩ = some (.int .u8 (b0 : Int)) := by
    have := hc 0 (.int .u8 (b0 : Int)) (by rw [by8_get bs 0 (by omega), hb0])
    exact this
  have HB8 := Lib.hid hb
  obtain ⟨t, ht⟩ : ∃ t, Hid ((rName bs).1 = t) := ⟨_, rfl⟩
  obtain ⟨ln, hln⟩ : ∃ ln, Hid ((rName bs).2 = ln) := ⟨_, rfl⟩
  have ltx : t.length ≤ 400 := by rw [← ht.out]; exact rname_len bs hb
  have hpc := hr.pc
  have HL : Hid (LaidAt (lay (bas 0) r.pc bs) r.pc bs) := Lib.hid (laid_lay 0 r.pc bs hpc h4 h20)
  have HBX : ∀ (W : World) (l : Blocks) (h : Hid (Own w W l)), Calls Tryz.prog 14 #[.int .u16 (r.pc : Int), .slice (some ⟨g, o, none⟩) bs.length cc, .int .u8 0] W fun e w' => ∃ b, e = .returned (.pointer (some ⟨b, 0, none⟩)) ∧ Hid (Bx w w' b ⟨lay (bas 0) r.pc bs, []⟩ l 1000000) :=
    fun W l h => box_at (W0 := w) r.pc 0 cc bs (some ⟨g, o, none⟩) hpc (by omega) (HRD l) h
  obtain ⟨n, hn⟩ : ∃ n, bs.length = n := ⟨_, rfl⟩
  have HNM := fun (W : World) (h : Rd W (.slice (some ⟨g, o, none⟩) bs.length cc) (by8 bs)) => rname_n _ bs (by omega) hb t ln ht hln W h
  simp only [hn] at h4 h20 hR HBX HNM ⊢
  have h4i : decide ((n : Int) < 4) = false := decide_eq_false (by omega)
  have h20i : decide ((20 : Int) < (n : Int)) = false := decide_eq_false (by omega)
  have h0i : 0 < (n : Int) := by omega
  have c3i : ((r.px : Int) != 0) = false := by rw [c3]; rfl
  have HBX := Lib.hid HBX
  have HNM := Lib.hid HNM
  have HPX := Lib.hid c3
  have HH0 := Lib.hid hb0
  have q253 := Lib.hid (show (b0 : Int) = 253 by simpa using y)
  have q221 := Lib.hid (show ¬ (b0 : Int) = 221 by simpa using n221)
  have q203 := Lib.hid (show ¬ (b0 : Int) = 203 by simpa using n203)
  have q237 := Lib.hid (show ¬ (b0 : Int) = 237 by simpa using n237)
  clear hT hb hc hb0 hpc HRD hn h4 h20 c3
  have HM := Lib.hid (Own.start w)
  have tg1 : Hid True := trivial
  have tg2 : Hid True := trivial
  have tg3 : Hid True := trivial
  go_enter Tryz.func7, Tryz.ntmps7
  go_upto_region 6 with (first
    | (exact absurd (hh.symm.trans (by with_reducible assumption : r.ht = true)) Bool.noConfusion) | ((with_reducible apply own_box HM); exact rfl; (conv => lhs; whnf); exact rfl; exact rfl; (first | (clear tg1 HM; intro w' g1 HM) | (clear tg2 HM; intro w' g2 HM) | (clear tg3 HM; intro w' g3 HM) | (clear tg4 HM; intro w' g4 HM) | (clear HM; intro w' g' HM))) | ((with_reducible apply own_row HM); exact rfl; exact rfl; exact aggR; exact sS; exact rfl; exact lS) | ((with_reducible apply own_get HM); exact rfl; exact rfl; exact oS; exact sS; (conv => lhs; whnf); exact rfl) | (go_at_call 16; (with_reducible refine (cpuAlive_any _ (Tabs.own HT HM)).mono ?_); rintro e w' ⟨rfl, hb⟩; replace HM := Lib.hid (HM.out.call hb); clear hb) | (go_at_call 17; (with_reducible refine (rrightRegs r _ HRB _).mono ?_); rintro e w' ⟨rfl, hb⟩; replace HM := Lib.hid (HM.out.call hb); clear hb)
    | (go_at_call 22; (with_reducible refine (HNM.out _ (Rd.own hR HM)).mono ?_); rintro e w' ⟨rfl, hb⟩; replace HM := Lib.hid (HM.out.call hb); clear hb))
  go_upto_region 7 with (first
    | ((with_reducible apply own_made (cs := mvS.map fun t => Value.string ⟨t.toArray⟩) (e := 9) (n := 10) HM); exact rfl; exact made10; (focus (go_simp; done)); exact rfl; clear tg2; intro w' g2 HM'; clear HM; have HM := HM'; clear HM'))
  go_loopw [8, 46] (fun s i wr => ∃ k : Nat, k ≤ 10 ∧ i = .int .i64 (k : Int) ∧ (∀ j, j < k → rHas t (mvS.getD j []) = false) ∧ Hid (Own w wr [(g2, 9, mvS.map fun t => Value.string ⟨t.toArray⟩), (g1, 25, r.cells)])) (fun _ i _ => 10 - (intOf i).toNat)
  case atStart => exact ⟨0, by omega, rfl, fun j hj => absurd hj (by omega), HM⟩
  case round =>
    clear HM
    obtain ⟨k, hk, rfl, HN, HM⟩ := hrel
    by_cases hlt : k < 10
    · have hlt' : (k : Int) < 10 := by omega
      obtain ⟨m, hm⟩ : ∃ m, mvS.getD k [] = m := ⟨_, rfl⟩
      have HMk := Lib.hid (mv_cell k hlt)
      obtain ⟨p1, p2⟩ := mv_piece k hlt
      rw [hm] at HMk p1 p2
      obtain ⟨B, hB⟩ : ∃ B, Hid (rHas t m = B) := ⟨_, rfl⟩
      have HN' := Lib.hid HN
      clear HN
      cases B
      · go_wp2_with (first
          | ((with_reducible apply own_get HM); exact rfl; exact rfl; (with_reducible exact oneStr); (with_reducible exact .z); exact HMk.out; exact rfl)
          | (go_at_call 23; (with_reducible refine (has_n t m _ ltx p1 p2 hB _).mono ?_); rintro e w' ⟨rfl, hb⟩; replace HM := Lib.hid (HM.out.call hb); clear hb))
        go_roundw
        case rel =>
          refine ⟨k + 1, by omega, by go_num, fun j hj => ?_, HM⟩
          by_cases e : j = k
          · rw [e, hm]; exact hB.out
          · exact HN'.out j (by omega)
        case measure => simp [intOf]; omega
      · go_wp2_with (first
          | ((with_reducible apply own_get HM); exact rfl; exact rfl; (with_reducible exact oneStr); (with_reducible exact .z); exact HMk.out; exact rfl)
          | (go_at_call 23; (with_reducible refine (has_n t m _ ltx p1 p2 hB _).mono ?_); rintro e w' ⟨rfl, hb⟩; replace HM := Lib.hid (HM.out.call hb); clear hb))
        go_ret
        exact ⟨rfl, Own.fin HM⟩
    · obtain rfl : k = 10 := by omega
      have HNO := Lib.hid (mv_all t HN)
      clear HN hk hlt
      have HNO' : ∀ m ∈ mvS, rHas (rName bs).1 m = false := by rw [ht.out]; exact HNO.out
      obtain ⟨u, hu⟩ : ∃ u : U, Hid (u = ⟨lay (bas 0) r.pc bs, []⟩) := ⟨_, rfl⟩
      have hLu : LaidAt u.m r.pc bs := by rw [hu.out]; exact HL.out
      have HE := mv_far r u bs HR.out HPX.out hh HB8.out hLu HNO' (by have := q221.out; have := q253.out; rw [HH0.out]; omega)
      obtain ⟨r1, hr1⟩ : ∃ x, Hid (stepR r u = x) := ⟨_, rfl⟩
      obtain ⟨u1, hu1⟩ : ∃ x, Hid (stepU r u = x) := ⟨_, rfl⟩
      obtain ⟨k1, K1⟩ : ∃ x, Hid (stepN r u = x) := ⟨_, rfl⟩
      rw [hr1.out, hu1.out, K1.out] at HE
      obtain ⟨rz, hr2⟩ : ∃ x, Hid (stepR r1 u1 = x) := ⟨_, rfl⟩
      obtain ⟨u2, hu2⟩ : ∃ x, Hid (stepU r1 u1 = x) := ⟨_, rfl⟩
      obtain ⟨k2, K2⟩ : ∃ x, Hid (stepN r1 u1 = x) := ⟨_, rfl⟩
      rw [hr2.out, K2.out] at HE
      obtain ⟨E1, E2, E3⟩ := HE
      have rr := HR.out.r
      have E2' : rz.r = tk (tk r.r) := by rcases E2 with ⟨h, h'⟩ | ⟨h, h'⟩; exact absurd h (by decide); exact h'
      have tr : rz.r < 256 := by rw [E2']; exact tk_lt _ (tk_lt _ rr)
      have tt := tk_two r.r rr
      rw [← E2'] at tt
      have ln4 : ln ≤ 4 := by rw [← hln.out, ← name_same bs HB8.out]; exact (name_len bs HB8.out).2
      have f1 : IntKind.u16.wrap (ln : Int) = (ln : Int) := by rw [IntKind.wrap_u16]; omega
      have f2 : IntKind.u16.wrap ((r.pc : Int) + (ln : Int)) = (rz.pc : Int) := by
        have e := E1
        rw [hln.out] at e
        rw [IntKind.wrap_u16, e]; omega
      obtain ⟨dd, hdd⟩ : ∃ dd, (rz.r + 256 - r.r) % 256 = dd := ⟨_, rfl⟩
      have f3 : IntKind.u8.wrap ((rz.r : Int) - (r.r : Int)) = (dd : Int) := by rw [IntKind.wrap_u8]; omega
      have f4 : bits .and .u8 (dd : Int) 127 = 2 := by rw [low7 dd (by omega), ← hdd, tt.1]; rfl
      obtain ⟨hi, hhi⟩ : ∃ hi, r.r / 128 * 128 = hi := ⟨_, rfl⟩
      have f5 : bits .and .u8 (rz.r : Int) 128 = (hi : Int) := by rw [high1 _ tr, tt.2, hhi]
      have f6 : bits .and .u8 (r.r : Int) 128 = (hi : Int) := by rw [high1 _ rr, hhi]
      have f7 : 8 ≤ (k1 : Int) + (k2 : Int) := by omega
      have b1 : (k1 : Int) ≤ 23 := by rw [← K1.out]; exact Int.ofNat_le.2 (Cs.few_step _).2
      have b2 : (k2 : Int) ≤ 23 := by rw [← K2.out]; exact Int.ofNat_le.2 (Cs.few_step _).2
      clear E1 E2 E2' E3 tt tr rr hdd hhi ln4 HNO' hLu HNO ht hln
      go_upto_region 15 with (first
        | ((with_reducible apply own_row HM); exact rfl; exact rfl; exact aggR; exact sS; exact rfl; exact lS) | ((with_reducible apply own_lay HM); exact rfl; exact rfl; exact rfl; exact sS; exact sS; exact aggR.size; exact lS; exact lS; (first | exact Rg.one1 _ | exact rfl); exact rfl; exact rfl; clear HM; intro w' HM) | ((with_reducible apply own_old HM); exact rfl; exact rfl; (with_reducible exact oneU8); (first | (with_reducible exact c0) | exact c0); exact rfl; exact rfl)
        | ((with_reducible apply own_alloc HM); exact rfl; (with_reducible exact zeroR); exact rfl; clear tg3; intro w' g3 HM'; clear HM; have HM := HM'; clear HM'))
      go_upto_region 16 with (first
        | ((with_reducible apply own_get HM); exact rfl; exact rfl; exact oS; exact sS; (conv => lhs; whnf); exact rfl)
        | (go_at_call 14; (with_reducible refine (HBX.out _ _ HM).mono ?_); rintro e w' ⟨b, rfl, hB⟩; have HB := hB; clear HM hB))
      rw [← hu.out] at HB
      obtain ⟨HG, X, HX, HM⟩ := HB.out.hid3
      clear HB hu
      go_upto_region 17 with (first
        | ((with_reducible apply own_row HM); exact rfl; exact rfl; exact aggR; exact sS; exact rfl; exact lS) | ((with_reducible apply own_lay HM); exact rfl; exact rfl; exact rfl; exact sS; exact sS; exact aggR.size; exact lS; exact lS; (first | exact Rg.one1 _ | exact rfl); exact rfl; exact rfl; clear HM; intro w' HM)
        | (go_at_call 13; have hbx : Hid (Bx _ _ b _ [_, _, _] (999994 + 6)) := Lib.hid ⟨HG.out, X, HX.out, HM.out⟩; (with_reducible refine (step_to HT HR hr1 K1 hu1 hbx).mono ?_); clear hbx; rintro e w' ⟨rfl, HR1, hB⟩; clear HM HG HX; obtain ⟨HG, X, HX, HM⟩ := hB.out.hid3))
      go_upto_region 21 with (first
        | ((with_reducible apply own_row HM); exact rfl; exact rfl; exact aggR; exact sS; exact rfl; exact lS) | ((with_reducible apply own_lay HM); exact rfl; exact rfl; exact rfl; exact sS; exact sS; exact aggR.size; exact lS; exact lS; (first | exact Rg.one1 _ | exact rfl); exact rfl; exact rfl; clear HM; intro w' HM)
        | (go_at_call 13; have hbx : Hid (Bx _ _ b _ [_, _, _] (999988 + 6)) := Lib.hid ⟨HG.out, X, HX.out, HM.out⟩; (with_reducible refine (step_to HT HR1 hr2 K2 hu2 hbx).mono ?_); clear hbx; rintro e w' ⟨rfl, HR2, hB⟩; clear HM HG HX; obtain ⟨HG, X, HX, HM⟩ := hB.out.hid3))
      go_upto_region 25 with (first | ((with_reducible apply own_old HM); exact rfl; exact rfl; (with_reducible exact oneU8); (first | (with_reducible exact c0) | exact c0); exact rfl; exact rfl))
      go_wp2_with (first | ((with_reducible apply own_get HM); exact rfl; exact rfl; exact oS; exact sS; (conv => lhs; whnf); exact rfl))
      go_ret
      exact ⟨rfl, Own.fin HM⟩
theorem moves_any (r : Rg) (hr : r.Fits) (bs : List Nat) (a : Option Addr) (cc : Nat) (hb : ∀ i, bs.getD i 0 < 256) (w : World) (hR : Rd w (.slice a bs.length cc) (by8 bs)) (hT : Tabs w) :
    Calls Tryz.prog 7 #[r.v, .slice a bs.length cc] w fun e w' => e = .returned (.bool true) ∧ Below w.heap.size w w' := by
  cases hq : r.right with
  | false => exact moves_wrong r hr a _ cc hq w hT
  | true =>
    by_cases h4 : bs.length < 4
    · exact moves_short r hr a _ cc hq (decide_eq_true (by omega)) w hT
    · by_cases h20 : 20 < bs.length
      · exact moves_long r hr a _ cc hq (decide_eq_false (by omega)) (decide_eq_true (by omega)) w hT
      · by_cases c3 : r.px = 0
        · cases hh : r.ht with
          | true => exact moves_halted r hr a _ cc hq (decide_eq_false (by omega)) (decide_eq_false (by omega)) (by rw [c3]; rfl) hh w hT
          | false =>
            rcases hR with ⟨h, h'⟩ | ⟨ad, cap, h, h'⟩ | ⟨g, o, cap, h, hg, hc⟩
            · exfalso; have e := congrArg List.length h'; rw [by8_length] at e; simp only [List.length_nil] at e; omega
            · exfalso; have e := congrArg List.length h'; rw [by8_length] at e; simp only [List.length_nil] at e; omega
            · obtain rfl : a = some ⟨g, o, none⟩ := by injection h
              by_cases y1 : bs.getD 0 0 = 221
              · exact moves_dd r hr bs g o cc hb (by omega) (by omega) w hg hc hq c3 hh _ rfl (by first | (rw [beq_eq_false_iff_ne]; omega) | (rw [beq_iff_eq]; omega)) (by first | (rw [beq_eq_false_iff_ne]; omega) | (rw [beq_iff_eq]; omega)) (by first | (rw [beq_eq_false_iff_ne]; omega) | (rw [beq_iff_eq]; omega)) (by first | (rw [beq_eq_false_iff_ne]; omega) | (rw [beq_iff_eq]; omega)) hT
              · by_cases y2 : bs.getD 0 0 = 253
                · exact moves_fd r hr bs g o cc hb (by omega) (by omega) w hg hc hq c3 hh _ rfl (by first | (rw [beq_eq_false_iff_ne]; omega) | (rw [beq_iff_eq]; omega)) (by first | (rw [beq_eq_false_iff_ne]; omega) | (rw [beq_iff_eq]; omega)) (by first | (rw [beq_eq_false_iff_ne]; omega) | (rw [beq_iff_eq]; omega)) (by first | (rw [beq_eq_false_iff_ne]; omega) | (rw [beq_iff_eq]; omega)) hT
                · by_cases y3 : bs.getD 0 0 = 203
                  · exact moves_cb r hr bs g o cc hb (by omega) (by omega) w hg hc hq c3 hh _ rfl (by first | (rw [beq_eq_false_iff_ne]; omega) | (rw [beq_iff_eq]; omega)) (by first | (rw [beq_eq_false_iff_ne]; omega) | (rw [beq_iff_eq]; omega)) (by first | (rw [beq_eq_false_iff_ne]; omega) | (rw [beq_iff_eq]; omega)) (by first | (rw [beq_eq_false_iff_ne]; omega) | (rw [beq_iff_eq]; omega)) hT
                  · by_cases y4 : bs.getD 0 0 = 237
                    · exact moves_ed r hr bs g o cc hb (by omega) (by omega) w hg hc hq c3 hh _ rfl (by first | (rw [beq_eq_false_iff_ne]; omega) | (rw [beq_iff_eq]; omega)) (by first | (rw [beq_eq_false_iff_ne]; omega) | (rw [beq_iff_eq]; omega)) (by first | (rw [beq_eq_false_iff_ne]; omega) | (rw [beq_iff_eq]; omega)) (by first | (rw [beq_eq_false_iff_ne]; omega) | (rw [beq_iff_eq]; omega)) hT
                    · exact moves_plain r hr bs g o cc hb (by omega) (by omega) w hg hc hq c3 hh _ rfl (by first | (rw [beq_eq_false_iff_ne]; omega) | (rw [beq_iff_eq]; omega)) (by first | (rw [beq_eq_false_iff_ne]; omega) | (rw [beq_iff_eq]; omega)) (by first | (rw [beq_eq_false_iff_ne]; omega) | (rw [beq_iff_eq]; omega)) (by first | (rw [beq_eq_false_iff_ne]; omega) | (rw [beq_iff_eq]; omega)) hT
        · exact moves_pre r hr a _ cc hq (decide_eq_false (by omega)) (decide_eq_false (by omega)) (by simp; omega) w hT
end Go.Proofs.YtljjgakfnajifaaGreatDoor
