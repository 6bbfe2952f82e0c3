import Derived.Test.YtljjgakfnajifaaGreatDoorZCpuAw
import Derived.Deep.Cut
import Derived.Deep.CutRange
import Derived.ProofKit
import Derived.OpenShut
import Derived.ChangeOld
import Derived.Below
import Derived.Lib.SmallJoins
import Derived.ChangeArms
import Derived.LaidMore
import Derived.Stop.Joined
import Derived.Lib.LaidTab
import Derived.MakeChecks
import Derived.SevenTiedAt
import Derived.Test.YtljjgakfnajifaaGreatDoorTie
import Derived.Test.YtljjgakfnajifaaGreatDoorCards
namespace Go.Proofs.YtljjgakfnajifaaGreatDoor
open Go.RowKit
def bl (n : Nat) (f : Nat → Nat) : List Value := (List.range n).map fun i => .int .u8 (f i : Int)
theorem bl_length (n : Nat) (f : Nat → Nat) : (bl n f).length = n := by simp [bl]
theorem bl_get (n : Nat) (f : Nat → Nat) (i : Nat) (h : i < n) : (bl n f)[i]? = some (.int .u8 (f i : Int)) := by
  unfold bl; rw [List.getElem?_map, List.getElem?_range h]; rfl
theorem bl_ext {n : Nat} {f g : Nat → Nat} (h : ∀ i, i < n → f i = g i) : bl n f = bl n g := by
  unfold bl; exact List.map_congr_left fun i hi => by rw [h i (List.mem_range.1 hi)]
theorem bl_set (n : Nat) (f : Nat → Nat) (a v : Nat) : (bl n f).set a (.int .u8 (v : Int)) = bl n (upd f a v) := by
  apply List.ext_getElem?
  intro i
  rw [List.getElem?_set]
  by_cases hi : i < n
  · rw [bl_get n _ i hi, bl_get n _ i hi]
    by_cases h : a = i
    · subst h; simp [bl_length, hi, upd]
    · have : ¬ i = a := fun e => h e.symm
      simp [h, upd, this]
  · have e1 : (bl n f)[i]? = none := by rw [List.getElem?_eq_none]; rw [bl_length]; omega
    have e2 : (bl n (upd f a v))[i]? = none := by rw [List.getElem?_eq_none]; rw [bl_length]; omega
    rw [e1, e2]
    by_cases h : a = i
    · subst h; simp [bl_length, hi]
    · simp [h]
theorem bl_221 (n : Nat) (f : Nat → Nat) (a : Nat) : (bl n f).set a (.int .u8 221) = bl n (upd f a 221) := bl_set n f a 221
theorem bl_253 (n : Nat) (f : Nat → Nat) (a : Nat) : (bl n f).set a (.int .u8 253) = bl n (upd f a 253) := bl_set n f a 253
theorem bl_46 (n : Nat) (f : Nat → Nat) (a : Nat) : (bl n f).set a (.int .u8 46) = bl n (upd f a 46) := bl_set n f a 46
theorem bl_zero (n : Nat) : bl n (fun _ => 0) = List.replicate n (Value.int .u8 0) := by
  apply List.ext_getElem?
  intro i
  by_cases h : i < n
  · rw [bl_get n _ i h, List.getElem?_replicate, if_pos h]; rfl
  · rw [List.getElem?_replicate, if_neg h, List.getElem?_eq_none (by rw [bl_length]; omega)]
def fillB (i : Nat) : Nat := if i % 3 = 1 then 253 else 221
def fillTo (k i : Nat) : Nat := if i < k then fillB i else 0
theorem fill_a (k : Nat) (h : k % 3 = 1) : upd (upd (fillTo k) k 221) k 253 = fillTo (k + 1) := by
  funext i
  unfold upd fillTo
  by_cases hi : i = k
  · rw [if_pos hi, if_pos (by omega), hi]; exact (if_pos h).symm
  · rw [if_neg hi, if_neg hi]
    by_cases h2 : i < k
    · rw [if_pos h2, if_pos (by omega)]
    · rw [if_neg h2, if_neg (by omega)]
theorem fill_b (k : Nat) (h : ¬ k % 3 = 1) : upd (fillTo k) k 221 = fillTo (k + 1) := by
  funext i
  unfold upd fillTo
  by_cases hi : i = k
  · rw [if_pos hi, if_pos (by omega), hi]; exact (if_neg h).symm
  · rw [if_neg hi]
    by_cases h2 : i < k
    · rw [if_pos h2, if_pos (by omega)]
    · rw [if_neg h2, if_neg (by omega)]
theorem pfx_all (many v n : Nat) (last : Bool) (hm : 1 ≤ many) (hn : n = many + 2) (f : Nat → Nat) (hf : f = cond last (upd (upd (fillTo n) (many - 1) 221) (many - 1) 253) (upd (fillTo n) (many - 1) 221)) : bl n (upd (upd f many 46) (many + 1) v) = bl n (pfxB many last v) := by
  refine bl_ext fun i hi => ?_
  unfold pfxB upd
  by_cases h1 : i = many + 1
  · rw [if_pos h1, if_pos h1]
  · rw [if_neg h1, if_neg h1]
    by_cases h2 : i = many
    · rw [if_pos h2, if_pos h2]
    · rw [if_neg h2, if_neg h2]
      subst hf
      by_cases h3 : i + 1 = many
      · rw [if_pos h3]
        have h4 : i = many - 1 := by omega
        cases last
        · show upd _ _ _ i = 221; rw [h4, upd_at]
        · show upd _ _ _ i = 253; rw [h4, upd_at]
      · rw [if_neg h3]
        have h4 : i ≠ many - 1 := by omega
        have h5 : fillTo n i = fillB i := if_pos hi
        cases last
        · show upd _ _ _ i = _; rw [upd_ne _ _ _ _ h4, h5]; rfl
        · show upd _ _ _ i = _; rw [upd_ne _ _ _ _ h4, upd_ne _ _ _ _ h4, h5]; rfl
theorem bl_reads {W0 : World} {l : Blocks} {g n : Nat} (f : Nat → Nat) (h8 : ∀ i, f i < 256) : Reads W0 ((g, 5, bl n f) :: l) (some ⟨g, 0, none⟩) ((List.range n).map f) := by
  have h := reads_own (W0 := W0) (l := l) (g := g) (t := 5) ((List.range n).map f) (by intro y hy; obtain ⟨i, _, rfl⟩ := List.mem_map.1 hy; exact h8 i)
  rwa [List.map_map] at h
theorem pfxB_lt (many : Nat) (last : Bool) (v : Nat) (hv : v < 256) (i : Nat) : pfxB many last v i < 256 := by
  unfold pfxB; split; exact hv; split; decide; split; (cases last <;> decide); split; decide; decide
theorem pfx_mem (many : Nat) (last : Bool) (v n i : Nat) (hn : n = many + 2) (hm : many ≤ 100) (hi : i < n) : lay (bas 0) 0 ((List.range n).map (pfxB many last v)) i = pfxB many last v i := by
  rw [lay_zero _ _ _ (by omega) (by simp; omega), if_pos (by simpa using hi), List.getD_eq_getElem?_getD, List.getElem?_map, List.getElem?_range hi]
  rfl
theorem pfx_fits (many : Nat) (last : Bool) (v k : Nat) (hv : v < 256) (hk : k < 65536) : (pfxR many last v k).Fits := by
  refine { rg0_fits with ix := (by show 4369 < 65536; decide), iy := (by show 8738 < 65536; decide), pc := hk, r := (by show k % 128 < 256; omega), px := ?_ }
  show (if k = 0 then 0 else pfxB many last v (k - 1)) < 256
  split
  · decide
  · exact pfxB_lt _ _ _ hv _
theorem inter_pfx {W0 w : World} {b n : Nat} {l : Blocks} {r : Rg} {u : U} (hp : Hid (¬ r.px = 0)) (hr : Hid r.Fits) (h : Hid (Bx W0 w b u l (n + 4))) :
    Calls Tryz.prog 15 #[r.v, .iface 28 (.pointer (some ⟨b, 0, none⟩)), .bool true, .bool true] w fun e w' => e = .returned (.tuple #[r.v, .int .i64 0]) ∧ Hid (Bx W0 w' b u l n) := by
  have e0 : Nat.beq r.px 0 = false := by rw [← Bool.not_eq_true, Nat.beq_eq]; exact hp.out
  have e1 : Cs.takes ⟨r, 0, u⟩ true true = false := by show and (Nat.beq r.px 0) _ = false; rw [e0]; rfl
  have e2 : Cs.inter ⟨r, 0, u⟩ true true = ⟨r, 0, u⟩ := by unfold Cs.inter; rw [e1]; rfl
  have e3 : Cs.interC ⟨r, 0, u⟩ true true = 0 := by unfold Cs.interC; rw [e1]; rfl
  refine (inter_any r u true true hr.out h).mono fun e w' ⟨he, _, hb⟩ => ⟨?_, ?_⟩
  · rw [he, e2, e3]; rfl
  · rw [e2] at hb; exact hb
theorem build_pfx0 (w : World) : (Instr.build 25 #[(18, .bool true), (9, .int .u16 4369), (10, .int .u16 8738)]).run Tryz.prog w = .ok (pfxR 0 false 0 0).v w := by kernel_rfl
theorem build_pfx (many : Nat) (last : Bool) (v : Nat) (w : World) : (Instr.build 25 #[(18, .bool true), (9, .int .u16 4369), (10, .int .u16 8738)]).run Tryz.prog w = .ok (pfxR many last v 0).v w := build_pfx0 w
theorem own_built3 {P : Program} {w : World} {ops : Array Oper} {rest : List Oper} {o : Oper} {a : Act} {Q : Exit → Act → World → Prop} {t : TypeId} {i j k : Nat} {x y z : Operand} {vx vy vz v : Value} (hx : ∀ w, (Instr.build t #[(i, vx), (j, vy), (k, vz)]).run P w = .ok v w)
    (ho : o.op = .build t #[(i, x), (j, y), (k, z)]) (h1 : a.eval x = vx) (h2 : a.eval y = vy) (h3 : a.eval z = vz) (hw : Region.wanted o (yielded ops a.tmps) = true) (h : wpList P ops Q rest (a.put o.dst v) w) : wpList P ops Q (o :: rest) a w :=
  own_built hx ho (by simp [h1, h2, h3]) hw h
theorem box_pfx {W0 w : World} {l : Blocks} {g k cap : Nat} (m : Nat) (last : Bool) (v : Nat) (hk : Hid (k = m + 2)) (hm : m ≤ 100) (hv : v < 256) (h : Hid (Own W0 w ((g, 5, bl k (pfxB m last v)) :: l))) :
    Calls Tryz.prog 14 #[.int .u16 0, .slice (some ⟨g, 0, none⟩) k cap, .int .u8 0] w fun e w' => ∃ b, e = .returned (.pointer (some ⟨b, 0, none⟩)) ∧ Hid (Bx W0 w' b ⟨lay (bas 0) 0 ((List.range k).map (pfxB m last v)), []⟩ ((g, 5, bl k (pfxB m last v)) :: l) 1000000) := by
  have hk' := hk.out
  have h' := box_at 0 0 cap ((List.range k).map (pfxB m last v)) (some ⟨g, 0, none⟩) (by decide) (by rw [List.length_map, List.length_range]; omega) (Lib.hid (bl_reads _ (pfxB_lt m last v hv))) h
  rw [List.length_map, List.length_range] at h'
  exact h'
end Go.Proofs.YtljjgakfnajifaaGreatDoor
namespace Go.Proofs.YtljjgakfnajifaaGreatDoor
open Go.RowKit
theorem fill_zero : (fun _ : Nat => 0) = fillTo 0 := by funext i; exact (if_neg (by omega)).symm
set_option maxRecDepth 100000 in
set_option maxHeartbeats 1600000 in
theorem pfx_no (many : Int) (last : Bool) (v : Nat) (h : many < 1 ∨ 100 < many) (w : World) (hT : Tabs w) : Calls Tryz.prog 10 #[.int .i64 many, .bool last, .int .u8 (v : Int)] w fun e w' => e = .returned (.bool true) ∧ Below w.heap.size w w' := by
  have HT := Lib.hid hT
  have HM := Lib.hid (Own.start w)
  clear hT
  rcases h with h | h
  · have h2 : many ≤ 100 := by omega
    go_enter Tryz.func10, Tryz.ntmps10
    go_wp2_with (first
      | (go_at_call 16; (with_reducible refine (cpuAlive_any _ (Tabs.own HT HM)).mono ?_); rintro e w' ⟨rfl, hb⟩; replace HM := Lib.hid (HM.out.call hb); clear hb))
    go_ret
    exact ⟨rfl, Own.fin HM⟩
  · have h2 : (1 : Int) ≤ many := by omega
    go_enter Tryz.func10, Tryz.ntmps10
    go_wp2_with (first
      | (go_at_call 16; (with_reducible refine (cpuAlive_any _ (Tabs.own HT HM)).mono ?_); rintro e w' ⟨rfl, hb⟩; replace HM := Lib.hid (HM.out.call hb); clear hb))
    go_ret
    exact ⟨rfl, Own.fin HM⟩
set_option maxRecDepth 100000 in
set_option maxHeartbeats 1600000 in
theorem pfx_yes (m : Nat) (last : Bool) (v : Nat) (h1 : 1 ≤ m) (h100 : m ≤ 100) (hv : v < 256) (w : World) (hT : Tabs w) : Calls Tryz.prog 10 #[.int .i64 (m : Int), .bool last, .int .u8 (v : Int)] w fun e w' => e = .returned (.bool true) ∧ Below w.heap.size w w' := by
  have HT := Lib.hid hT
  have HM := Lib.hid (Own.start w)
  clear hT
  have i1 : (1 : Int) ≤ (m : Int) := by omega
  have i2 : (m : Int) ≤ 100 := by omega
  obtain ⟨n, hn⟩ : ∃ n : Nat, n = m + 2 := ⟨_, rfl⟩
  have HN := Lib.hid hn
  have en : (m : Int) + 2 = (n : Int) := by omega
  have hmk : Hid (∀ w, (Instr.makeSlice 30 (.int .i64 (n : Int)) (.int .i64 (n : Int))).run Tryz.prog w = .ok (.slice (some ⟨w.heap.size, 0, none⟩) n n) (w.alloc (.cells (bl n (fun _ => 0)).toArray 5))) := Lib.hid (by rw [bl_zero]; exact made_some n (by omega))
  clear hn
  go_enter Tryz.func10, Tryz.ntmps10
  go_upto_region 7 with (first
    | (go_at_call 16; (with_reducible refine (cpuAlive_any _ (Tabs.own HT HM)).mono ?_); rintro e w' ⟨rfl, hb⟩; replace HM := Lib.hid (HM.out.call hb); clear hb)
    | ((with_reducible apply own_makes (cs := bl n (fun _ => 0)) (e := 5) (n := n) HM); exact rfl; exact rfl; exact rfl; exact hmk.out; exact rfl; clear HM; intro w' g1 HM; all_goals skip))
  go_loopw [32] (fun i wr => ∃ k : Nat, k ≤ n ∧ i = .int .i64 (k : Int) ∧ Hid (Own w wr [(g1, 5, bl n (fillTo k))])) (fun i _ => n - (intOf i).toNat)
  case atStart => exact ⟨0, by omega, rfl, by rw [← fill_zero]; exact HM⟩
  case round =>
    clear HM
    obtain ⟨k, hk, rfl, HM⟩ := hrel
    by_cases hlt : k < n
    · have hlt2 : (k : Int) < (n : Int) := by omega
      obtain ⟨q, hq⟩ : ∃ q : Nat, k % 3 = q := ⟨_, rfl⟩
      have t3 : (k : Int).tmod 3 = (q : Int) := by rw [Int.tmod_eq_emod_of_nonneg (by omega)]; omega
      have m3 : (k : Int) % 3 = (q : Int) := by omega
      have k100 : (k : Int) < 102 := by have := HN.out; omega
      by_cases h3 : q = 1
      · have q3 : ((q : Int) == 1) = true := by rw [h3]; rfl
        have F := Lib.hid (fill_a k (by omega))
        clear hq h3
        go_wp2_with (first
          | ((with_reducible apply own_setc HM); exact rfl; exact rfl; exact rfl; exact .z; (first | exact bl_221 _ _ _ | exact bl_253 _ _ _ | exact bl_46 _ _ _ | exact bl_set _ _ _ _); exact .z; exact oneU8.size; exact rfl; exact rfl; (rw [bl_length]; assumption); exact rfl; clear HM; intro w' HM; all_goals skip))
        go_roundw
        case rel =>
          refine ⟨k + 1, by omega, by go_num, ?_⟩
          have h := HM.out
          rw [F.out] at h
          exact Lib.hid h
        case measure => simp [intOf]; omega
      · have q3 : ((q : Int) == 1) = false := by simp; omega
        have F := Lib.hid (fill_b k (by omega))
        clear hq h3
        go_wp2_with (first
          | ((with_reducible apply own_setc HM); exact rfl; exact rfl; exact rfl; exact .z; (first | exact bl_221 _ _ _ | exact bl_253 _ _ _ | exact bl_46 _ _ _ | exact bl_set _ _ _ _); exact .z; exact oneU8.size; exact rfl; exact rfl; (rw [bl_length]; assumption); exact rfl; clear HM; intro w' HM; all_goals skip))
        go_roundw
        case rel =>
          refine ⟨k + 1, by omega, by go_num, ?_⟩
          have h := HM.out
          rw [F.out] at h
          exact Lib.hid h
        case measure => simp [intOf]; omega
    · obtain rfl : k = n := by omega
      obtain ⟨m1, hm1⟩ : ∃ m1 : Nat, m1 = m - 1 := ⟨_, rfl⟩
      obtain ⟨p, hp⟩ : ∃ p : Nat, p = m + 1 := ⟨_, rfl⟩
      have em1 : (m : Int) - 1 = (m1 : Int) := by omega
      have em2 : (m : Int) + 1 = (p : Int) := by omega
      have hn2 := HN.out
      have j1 : (m1 : Int) < (k : Int) := by omega
      have j2 : (m : Int) < (k : Int) := by omega
      have j3 : (p : Int) < (k : Int) := by omega
      have jn1 : m1 < k := by omega
      have jn2 : m < k := by omega
      have jn3 : p < k := by omega
      have HM1 := Lib.hid hm1
      have HP := Lib.hid hp
      clear hn2 hm1 hp
      cases last
      · go_upto_region 17 with (first
          | ((with_reducible apply own_setc HM); exact rfl; exact rfl; exact rfl; exact .z; (first | exact bl_221 _ _ _ | exact bl_253 _ _ _ | exact bl_46 _ _ _ | exact bl_set _ _ _ _); exact .z; exact oneU8.size; exact rfl; exact rfl; (rw [bl_length]; assumption); exact rfl; clear HM; intro w' HM; all_goals skip))
        have E : bl k (upd (upd (upd (fillTo k) m1 221) m 46) p v) = bl k (pfxB m false v) := by
          rw [HP.out, HM1.out]
          exact pfx_all m v k false h1 HN.out _ rfl
        rw [E] at HM
        have HB := Lib.hid (fun i hi => pfx_mem m false v k i HN.out h100 hi)
        have HFT := Lib.hid (pfx_fits m false v 0 hv (by decide))
        clear E
        have tg2 : Hid True := trivial
        go_upto_region 20 with (first
          | (go_at_call 14; (with_reducible refine (box_pfx m false v HN h100 hv HM).mono ?_); rintro e w' ⟨b, rfl, hB⟩; obtain ⟨hg, X, hX, hO⟩ := hB.out; simp only [List.cons_append, List.nil_append] at hO; have HG := Lib.hid hg; have HX := Lib.hid hX; have HM' := Lib.hid hO; clear hg hX hO hB HM; have HM := HM'; clear HM')
          | ((with_reducible apply own_built3 (build_pfx m false v)); exact rfl; exact rfl; exact rfl; exact rfl; exact rfl; all_goals skip)
          | ((with_reducible apply own_alloc HM); exact rfl; (with_reducible exact zeroR); exact rfl; (first | (clear tg1 HM; intro w' g1 HM) | (clear tg2 HM; intro w' g2 HM) | (clear tg3 HM; intro w' g3 HM) | (clear tg4 HM; intro w' g4 HM) | (clear tg5 HM; intro w' g5 HM) | (clear tg6 HM; intro w' g6 HM)); all_goals skip) | ((with_reducible apply own_lay HM); exact rfl; exact rfl; exact rfl; (with_reducible first | exact .z | exact .s .z | exact .s (.s .z) | exact .s (.s (.s .z))); (with_reducible first | exact .z | exact .s .z | exact .s (.s .z) | exact .s (.s (.s .z))); exact aggR.size; (first | exact Rg.cells_length _ | exact rfl); (first | exact Rg.cells_length _ | exact rfl); (first | exact Rg.one1 _ | exact rfl); exact rfl; exact rfl; clear HM; intro w' HM; all_goals skip))
        go_loopw [11] (fun i wr => ∃ (j : Nat) (u : U) (X : Blocks), j ≤ m ∧ i = .int .i64 (j : Int) ∧ Hid (∀ i, i < k → u.m i = pfxB m false v i) ∧ Hid (u.Good (1000000 - 10 * j)) ∧ Hid (IsBox X b u) ∧ Hid (Own w wr ((g2, 25, (pfxR m false v j).cells) :: (g1, 5, bl k (pfxB m false v)) :: X))) (fun i _ => m - (intOf i).toNat)
        case atStart => exact ⟨0, _, X, by omega, rfl, HB, Lib.hid (HG.out.less (by omega)), HX, HM⟩
        case round =>
          clear HM HG HX HB HFT
          obtain ⟨j, u, X, hj, rfl, HB, HG, HX, HM⟩ := hrel
          by_cases hlt : j < m
          · have hlt2 : (j : Int) < (m : Int) := by omega
            obtain ⟨s1, s2, s3⟩ := pfx_step m false v j u hlt h100 (HB.out j (by have := HN.out; omega))
            obtain ⟨u', hu'⟩ : ∃ x, Hid (stepU (pfxR m false v j) u = x) := ⟨_, rfl⟩
            rw [hu'.out] at s3
            have HS1 := Lib.hid s1
            have HS2 := Lib.hid s2
            have HS3 := Lib.hid s3
            have HRJ := Lib.hid (pfx_fits m false v j hv (by omega))
            have HP' : Hid (¬ (pfxR m false v (j + 1)).px = 0) := Lib.hid (by
              show ¬ pfxB m false v j = 0
              rcases pfxB_pre m false v j hlt with h | h <;> rw [h] <;> decide)
            have HG2 : Hid (u.Good (1000000 - 10 * (j + 1) + 4 + 6)) := Lib.hid (HG.out.less (by omega))
            have ES := Rg.same (pfxR m false v (j + 1))
            clear s1 s2 s3 HG
            have HG := HG2
            clear HG2
            have tg3 : Hid True := trivial
            have tg4 : Hid True := trivial
            go_wp2_with (first
              | ((with_reducible apply own_row HM); exact rfl; exact rfl; exact aggR; (with_reducible first | exact .z | exact .s .z | exact .s (.s .z) | exact .s (.s (.s .z))); exact rfl; (first | exact Rg.cells_length _ | exact rfl); all_goals skip)
              | (go_at_call 13; have hbx : Hid (Bx _ _ b _ [_, _] _) := Lib.hid ⟨HG.out, X, HX.out, HM.out⟩; (with_reducible refine (step_to HT HRJ HS1 HS2 hu' hbx).mono ?_); clear hbx; rintro e w' ⟨rfl, HR', hB⟩; clear HM HG HX; obtain ⟨HG, X, HX, HM⟩ := hB.out.hid2)
              | (go_at_call 15; have hbx : Hid (Bx _ _ b _ [_, _, _] _) := Lib.hid ⟨HG.out, X, HX.out, HM.out⟩; (with_reducible refine (inter_pfx HP' HR' hbx).mono ?_); clear hbx; rintro e w' ⟨rfl, hB⟩; clear HM HG HX; obtain ⟨HG, X, HX, HM⟩ := hB.out.hid3)
              | ((with_reducible apply own_alloc HM); exact rfl; (with_reducible exact zeroR); exact rfl; (first | (clear tg1 HM; intro w' g1 HM) | (clear tg2 HM; intro w' g2 HM) | (clear tg3 HM; intro w' g3 HM) | (clear tg4 HM; intro w' g4 HM) | (clear tg5 HM; intro w' g5 HM) | (clear tg6 HM; intro w' g6 HM)); all_goals skip) | ((with_reducible apply own_lay HM); exact rfl; exact rfl; exact rfl; (with_reducible first | exact .z | exact .s .z | exact .s (.s .z) | exact .s (.s (.s .z))); (with_reducible first | exact .z | exact .s .z | exact .s (.s .z) | exact .s (.s (.s .z))); exact aggR.size; (first | exact Rg.cells_length _ | exact rfl); (first | exact Rg.cells_length _ | exact rfl); (first | exact Rg.one1 _ | exact rfl); exact rfl; exact rfl; clear HM; intro w' HM; all_goals skip))
            go_roundw
            case rel => exact ⟨j + 1, u', _, by omega, by go_num, Lib.hid (fun i hi => by rw [HS3.out]; exact HB.out i hi), HG, HX, Lib.hid HM.out.rest.rest⟩
            case measure => simp [intOf]; omega
          · obtain rfl : j = m := by omega
            have b1 : u.m j = 46 := (HB.out j (by have := HN.out; omega)).trans ((if_neg (by omega)).trans (if_pos rfl))
            have b2 : u.m (j + 1) = v := (HB.out (j + 1) (by have := HN.out; omega)).trans (if_pos rfl)
            obtain ⟨f1, f2, f3, f4⟩ := pfx_last j false v u h1 h100 b1 b2
            obtain ⟨r', hr'⟩ : ∃ x, Hid (stepR (pfxR j false v j) u = x) := ⟨_, rfl⟩
            obtain ⟨u', hu'⟩ : ∃ x, Hid (stepU (pfxR j false v j) u = x) := ⟨_, rfl⟩
            rw [hr'.out] at f2 f3 f4
            have HS2 := Lib.hid f1
            have HRJ := Lib.hid (pfx_fits j false v j hv (by omega))
            have q1 : ((r'.ix : Int) == 4352 + (v : Int)) = true := by rw [f2]; simp
            have q2 : ((r'.iy : Int) == 8738) = true := by rw [f3]; simp
            have q3 : ((r'.pc : Int) == (k : Int)) = true := by rw [f4, HN.out]; simp
            have hv2 : (v : Int) < 256 := by omega
            have pb : (r'.pc : Int) < 200 := by rw [f4]; omega
            have HG2 : Hid (u.Good (100 + 6)) := Lib.hid (HG.out.less (by omega))
            clear b1 b2 f1 f2 f3 f4 HG
            have HG := HG2
            clear HG2
            go_wp2_with (first
              | ((with_reducible apply own_row HM); exact rfl; exact rfl; exact aggR; (with_reducible first | exact .z | exact .s .z | exact .s (.s .z) | exact .s (.s (.s .z))); exact rfl; (first | exact Rg.cells_length _ | exact rfl); all_goals skip) | ((with_reducible apply own_get HM); exact rfl; exact rfl; (with_reducible first | exact oneU8 | exact oneU16 | exact oneBool); (with_reducible first | exact .z | exact .s .z | exact .s (.s .z) | exact .s (.s (.s .z))); (conv => lhs; whnf); exact rfl; all_goals skip)
              | (go_at_call 13; have hbx : Hid (Bx _ _ b _ [_, _] _) := Lib.hid ⟨HG.out, X, HX.out, HM.out⟩; (with_reducible refine (step_to HT HRJ hr' HS2 hu' hbx).mono ?_); clear hbx; rintro e w' ⟨rfl, HR', hB⟩; clear HM HG HX; obtain ⟨HG, X, HX, HM⟩ := hB.out.hid2)
              | ((with_reducible apply own_lay HM); exact rfl; exact rfl; exact rfl; (with_reducible first | exact .z | exact .s .z | exact .s (.s .z) | exact .s (.s (.s .z))); (with_reducible first | exact .z | exact .s .z | exact .s (.s .z) | exact .s (.s (.s .z))); exact aggR.size; (first | exact Rg.cells_length _ | exact rfl); (first | exact Rg.cells_length _ | exact rfl); (first | exact Rg.one1 _ | exact rfl); exact rfl; exact rfl; clear HM; intro w' HM; all_goals skip))
            go_ret
            exact ⟨rfl, Own.fin HM⟩
      · go_upto_region 17 with (first
          | ((with_reducible apply own_setc HM); exact rfl; exact rfl; exact rfl; exact .z; (first | exact bl_221 _ _ _ | exact bl_253 _ _ _ | exact bl_46 _ _ _ | exact bl_set _ _ _ _); exact .z; exact oneU8.size; exact rfl; exact rfl; (rw [bl_length]; assumption); exact rfl; clear HM; intro w' HM; all_goals skip))
        have E : bl k (upd (upd (upd (upd (fillTo k) m1 221) m1 253) m 46) p v) = bl k (pfxB m true v) := by
          rw [HP.out, HM1.out]
          exact pfx_all m v k true h1 HN.out _ rfl
        rw [E] at HM
        have HB := Lib.hid (fun i hi => pfx_mem m true v k i HN.out h100 hi)
        have HFT := Lib.hid (pfx_fits m true v 0 hv (by decide))
        clear E
        have tg2 : Hid True := trivial
        go_upto_region 20 with (first
          | (go_at_call 14; (with_reducible refine (box_pfx m true v HN h100 hv HM).mono ?_); rintro e w' ⟨b, rfl, hB⟩; obtain ⟨hg, X, hX, hO⟩ := hB.out; simp only [List.cons_append, List.nil_append] at hO; have HG := Lib.hid hg; have HX := Lib.hid hX; have HM' := Lib.hid hO; clear hg hX hO hB HM; have HM := HM'; clear HM')
          | ((with_reducible apply own_built3 (build_pfx m true v)); exact rfl; exact rfl; exact rfl; exact rfl; exact rfl; all_goals skip)
          | ((with_reducible apply own_alloc HM); exact rfl; (with_reducible exact zeroR); exact rfl; (first | (clear tg1 HM; intro w' g1 HM) | (clear tg2 HM; intro w' g2 HM) | (clear tg3 HM; intro w' g3 HM) | (clear tg4 HM; intro w' g4 HM) | (clear tg5 HM; intro w' g5 HM) | (clear tg6 HM; intro w' g6 HM)); all_goals skip) | ((with_reducible apply own_lay HM); exact rfl; exact rfl; exact rfl; (with_reducible first | exact .z | exact .s .z | exact .s (.s .z) | exact .s (.s (.s .z))); (with_reducible first | exact .z | exact .s .z | exact .s (.s .z) | exact .s (.s (.s .z))); exact aggR.size; (first | exact Rg.cells_length _ | exact rfl); (first | exact Rg.cells_length _ | exact rfl); (first | exact Rg.one1 _ | exact rfl); exact rfl; exact rfl; clear HM; intro w' HM; all_goals skip))
        go_loopw [11] (fun i wr => ∃ (j : Nat) (u : U) (X : Blocks), j ≤ m ∧ i = .int .i64 (j : Int) ∧ Hid (∀ i, i < k → u.m i = pfxB m true v i) ∧ Hid (u.Good (1000000 - 10 * j)) ∧ Hid (IsBox X b u) ∧ Hid (Own w wr ((g2, 25, (pfxR m true v j).cells) :: (g1, 5, bl k (pfxB m true v)) :: X))) (fun i _ => m - (intOf i).toNat)
        case atStart => exact ⟨0, _, X, by omega, rfl, HB, Lib.hid (HG.out.less (by omega)), HX, HM⟩
        case round =>
          clear HM HG HX HB HFT
          obtain ⟨j, u, X, hj, rfl, HB, HG, HX, HM⟩ := hrel
          by_cases hlt : j < m
          · have hlt2 : (j : Int) < (m : Int) := by omega
            obtain ⟨s1, s2, s3⟩ := pfx_step m true v j u hlt h100 (HB.out j (by have := HN.out; omega))
            obtain ⟨u', hu'⟩ : ∃ x, Hid (stepU (pfxR m true v j) u = x) := ⟨_, rfl⟩
            rw [hu'.out] at s3
            have HS1 := Lib.hid s1
            have HS2 := Lib.hid s2
            have HS3 := Lib.hid s3
            have HRJ := Lib.hid (pfx_fits m true v j hv (by omega))
            have HP' : Hid (¬ (pfxR m true v (j + 1)).px = 0) := Lib.hid (by
              show ¬ pfxB m true v j = 0
              rcases pfxB_pre m true v j hlt with h | h <;> rw [h] <;> decide)
            have HG2 : Hid (u.Good (1000000 - 10 * (j + 1) + 4 + 6)) := Lib.hid (HG.out.less (by omega))
            have ES := Rg.same (pfxR m true v (j + 1))
            clear s1 s2 s3 HG
            have HG := HG2
            clear HG2
            have tg3 : Hid True := trivial
            have tg4 : Hid True := trivial
            go_wp2_with (first
              | ((with_reducible apply own_row HM); exact rfl; exact rfl; exact aggR; (with_reducible first | exact .z | exact .s .z | exact .s (.s .z) | exact .s (.s (.s .z))); exact rfl; (first | exact Rg.cells_length _ | exact rfl); all_goals skip)
              | (go_at_call 13; have hbx : Hid (Bx _ _ b _ [_, _] _) := Lib.hid ⟨HG.out, X, HX.out, HM.out⟩; (with_reducible refine (step_to HT HRJ HS1 HS2 hu' hbx).mono ?_); clear hbx; rintro e w' ⟨rfl, HR', hB⟩; clear HM HG HX; obtain ⟨HG, X, HX, HM⟩ := hB.out.hid2)
              | (go_at_call 15; have hbx : Hid (Bx _ _ b _ [_, _, _] _) := Lib.hid ⟨HG.out, X, HX.out, HM.out⟩; (with_reducible refine (inter_pfx HP' HR' hbx).mono ?_); clear hbx; rintro e w' ⟨rfl, hB⟩; clear HM HG HX; obtain ⟨HG, X, HX, HM⟩ := hB.out.hid3)
              | ((with_reducible apply own_alloc HM); exact rfl; (with_reducible exact zeroR); exact rfl; (first | (clear tg1 HM; intro w' g1 HM) | (clear tg2 HM; intro w' g2 HM) | (clear tg3 HM; intro w' g3 HM) | (clear tg4 HM; intro w' g4 HM) | (clear tg5 HM; intro w' g5 HM) | (clear tg6 HM; intro w' g6 HM)); all_goals skip) | ((with_reducible apply own_lay HM); exact rfl; exact rfl; exact rfl; (with_reducible first | exact .z | exact .s .z | exact .s (.s .z) | exact .s (.s (.s .z))); (with_reducible first | exact .z | exact .s .z | exact .s (.s .z) | exact .s (.s (.s .z))); exact aggR.size; (first | exact Rg.cells_length _ | exact rfl); (first | exact Rg.cells_length _ | exact rfl); (first | exact Rg.one1 _ | exact rfl); exact rfl; exact rfl; clear HM; intro w' HM; all_goals skip))
            go_roundw
            case rel => exact ⟨j + 1, u', _, by omega, by go_num, Lib.hid (fun i hi => by rw [HS3.out]; exact HB.out i hi), HG, HX, Lib.hid HM.out.rest.rest⟩
            case measure => simp [intOf]; omega
          · obtain rfl : j = m := by omega
            have b1 : u.m j = 46 := (HB.out j (by have := HN.out; omega)).trans ((if_neg (by omega)).trans (if_pos rfl))
            have b2 : u.m (j + 1) = v := (HB.out (j + 1) (by have := HN.out; omega)).trans (if_pos rfl)
            obtain ⟨f1, f2, f3, f4⟩ := pfx_last j true v u h1 h100 b1 b2
            obtain ⟨r', hr'⟩ : ∃ x, Hid (stepR (pfxR j true v j) u = x) := ⟨_, rfl⟩
            obtain ⟨u', hu'⟩ : ∃ x, Hid (stepU (pfxR j true v j) u = x) := ⟨_, rfl⟩
            rw [hr'.out] at f2 f3 f4
            have HS2 := Lib.hid f1
            have HRJ := Lib.hid (pfx_fits j true v j hv (by omega))
            have q1 : ((r'.ix : Int) == 4369) = true := by rw [f2]; simp
            have q2 : ((r'.iy : Int) == 8704 + (v : Int)) = true := by rw [f3]; simp
            have q3 : ((r'.pc : Int) == (k : Int)) = true := by rw [f4, HN.out]; simp
            have hv2 : (v : Int) < 256 := by omega
            have pb : (r'.pc : Int) < 200 := by rw [f4]; omega
            have HG2 : Hid (u.Good (100 + 6)) := Lib.hid (HG.out.less (by omega))
            clear b1 b2 f1 f2 f3 f4 HG
            have HG := HG2
            clear HG2
            go_wp2_with (first
              | ((with_reducible apply own_row HM); exact rfl; exact rfl; exact aggR; (with_reducible first | exact .z | exact .s .z | exact .s (.s .z) | exact .s (.s (.s .z))); exact rfl; (first | exact Rg.cells_length _ | exact rfl); all_goals skip) | ((with_reducible apply own_get HM); exact rfl; exact rfl; (with_reducible first | exact oneU8 | exact oneU16 | exact oneBool); (with_reducible first | exact .z | exact .s .z | exact .s (.s .z) | exact .s (.s (.s .z))); (conv => lhs; whnf); exact rfl; all_goals skip)
              | (go_at_call 13; have hbx : Hid (Bx _ _ b _ [_, _] _) := Lib.hid ⟨HG.out, X, HX.out, HM.out⟩; (with_reducible refine (step_to HT HRJ hr' HS2 hu' hbx).mono ?_); clear hbx; rintro e w' ⟨rfl, HR', hB⟩; clear HM HG HX; obtain ⟨HG, X, HX, HM⟩ := hB.out.hid2)
              | ((with_reducible apply own_lay HM); exact rfl; exact rfl; exact rfl; (with_reducible first | exact .z | exact .s .z | exact .s (.s .z) | exact .s (.s (.s .z))); (with_reducible first | exact .z | exact .s .z | exact .s (.s .z) | exact .s (.s (.s .z))); exact aggR.size; (first | exact Rg.cells_length _ | exact rfl); (first | exact Rg.cells_length _ | exact rfl); (first | exact Rg.one1 _ | exact rfl); exact rfl; exact rfl; clear HM; intro w' HM; all_goals skip))
            go_ret
            exact ⟨rfl, Own.fin HM⟩
theorem pfx_any (many : Int) (last : Bool) (v : Nat) (hv : v < 256) (w : World) (hT : Tabs w) : Calls Tryz.prog 10 #[.int .i64 many, .bool last, .int .u8 (v : Int)] w fun e w' => e = .returned (.bool true) ∧ Below w.heap.size w w' := by
  by_cases h : many < 1 ∨ 100 < many
  · exact pfx_no many last v h w hT
  · obtain ⟨m, rfl⟩ : ∃ m : Nat, many = (m : Int) := ⟨many.toNat, by omega⟩
    exact pfx_yes m last v (by omega) (by omega) hv w hT
end Go.Proofs.YtljjgakfnajifaaGreatDoor
namespace Go.Proofs.YtljjgakfnajifaaGreatDoor.cpuPrefixes
open Go.ChangeShapes Go.WideShapes Go.ChangeAt Go.RowKit
theorem own : ownKnob Tryz.prog.godebug = none := by kernel_rfl
theorem door_met (os : Os) (args : Array Value) : laidMetH Tryz.prog Rows.cpuPrefixesRow.laid ((World.doorLaid Tryz.prog 400 os).forCall (fun _ _ => 0) ⟨#[], args, []⟩).memory :=
  laidMetH_of_parts3 (fuel := 8) (laidMet_of_run' 8 (by kernel_rfl) (by kernel_rfl)) (by kernel_rfl) (by kernel_rfl)
theorem laidOut : laidOutB Tryz.prog = true := by kernel_rfl
set_option maxRecDepth 100000 in
set_option maxHeartbeats 6400000 in
theorem lifted (os : Os) (started : os.Started) (H : Type) (enc : TypeId × Value → H) :
    ReturnsInHanded {} Tryz.checked os 10 .any (fun w args => (Rows.cpuPrefixesSpec.pre enc Tryz.prog Tryz.f10 [] false w args ∧ laidMetH Tryz.prog Rows.cpuPrefixesRow.laid w) ∧ sizedMet enc Tryz.prog Tryz.f10 (OpenSpec.ofChange Rows.cpuPrefixesSpec) false w args) (Rows.cpuPrefixesSpec.post enc Tryz.prog Tryz.f10 false true false false) := by
  refine returnsInHanded_of_change_and (C := Tryz.checked) (X := fun w _ => laidMetH Tryz.prog Rows.cpuPrefixesRow.laid w) (fun _ _ _ hh h => h.of_heap hh) own started (by kernel_rfl) Tryz.func10
    (ChangeSpec.witness_shaped (enc := enc) (C := Tryz.checked) (os := os) (X := fun w _ => laidMetH Tryz.prog Rows.cpuPrefixesRow.laid w) false (World.doorLaid Tryz.prog 400 os) #[.int .i64 0, .bool false, .int .u8 0] 8 rfl (World.shaped_of_RefB (by kernel_rfl) (by kernel_rfl)) (by kernel_rfl) (by kernel_rfl) (by kernel_rfl) (door_met os _)) ?_
  intro W base args ds gs before hval0 hW _ _ hL _
  have hT := tabs_of hL
  have hval : ∀ (j : Nat) t v, Tryz.f10.params[j]? = some t → args[j]? = some v → Value.okWide Tryz.prog W .any base t v := hval0
  have hW' := hW
  obtain ⟨p, q, hA0, hV, rfl, hfz, hnd⟩ := hW
  have hA : DataW.TrodAll enc Tryz.prog W 0 (fun _ => true) true Tryz.f10.params.toList args.toList ds p := hA0
  rw [Tryz.params10] at hA hval
  obtain ⟨v0, vs0, d0, ds0, p0, q0, hargs, rfl, rfl, h0, r0⟩ := trodAll_cons hA
  obtain ⟨v1, vs1, d1, ds1, p1, q1, rfl, rfl, rfl, h1, r1⟩ := trodAll_cons r0
  obtain ⟨v2, vs2, d2, ds2, p2, q2, rfl, rfl, rfl, h2, r2⟩ := trodAll_cons r1
  obtain ⟨rfl, rfl, rfl⟩ := trodAll_nil r2
  obtain rfl : args = #[v0, v1, v2] := by cases args; simp_all
  obtain ⟨rfl, rfl⟩ := trodVars_none hV
  have k0 := h0
  have lt0 : ∀ x ∈ p0, x.block < W.heap.size := by obtain ⟨m, hm⟩ := k0; exact DataW.trod_lt m _ _ _ hm
  have k1 := h1
  have lt1 : ∀ x ∈ p1, x.block < W.heap.size := by obtain ⟨m, hm⟩ := k1; exact DataW.trod_lt m _ _ _ hm
  have k2 := h2
  have lt2 : ∀ x ∈ p2, x.block < W.heap.size := by obtain ⟨m, hm⟩ := k2; exact DataW.trod_lt m _ _ _ hm
  obtain ⟨x0, rfl, rfl, rfl, w0⟩ := open_int Tryz.underlying3 (hval 0 3 v0 rfl rfl) h0
  obtain ⟨c1, rfl, rfl, rfl⟩ := open_bool Tryz.underlying4 (hval 1 4 v1 rfl rfl) h1
  obtain ⟨x2, rfl, rfl, rfl, w2⟩ := open_int Tryz.underlying5 (hval 2 5 v2 rfl rfl) h2
  have b2 := bounds_u8 w2
  obtain ⟨a2, rfl⟩ := Int.eq_ofNat_of_zero_le b2.1
  clear hA0 hval0
  refine ((pfx_any x0 c1 a2 (by omega) W hT)).mono fun e W' ⟨he, bel⟩ => ?_
  subst he
  exact ⟨_, rfl, _, _, _, [], _, [], hW', trodAll_mk1 (shut_bool Tryz.underlying4 _), (trodAll_cons_mk (Below.trod laidOut (by kernel_rfl) (of_decide_eq_true (by kernel_rfl)) k0 bel lt0) (trodAll_cons_mk (Below.trod laidOut (by kernel_rfl) (of_decide_eq_true (by kernel_rfl)) k1 bel lt1) (trodAll_cons_mk (Below.trod laidOut (by kernel_rfl) (of_decide_eq_true (by kernel_rfl)) k2 bel lt2) trodAll_mk0))), rfl, bel.frame _, fun h => by cases h⟩
theorem over : Rows.cpuPrefixesRow.holds Tryz.pinned (OpenSpec.ofChange Rows.cpuPrefixesSpec) :=
  OpenClaim.holds_of_wide 10 Tryz.f10 rfl rfl rfl rfl rfl rfl rfl ⟨rfl, rfl, rfl, rfl, rfl⟩ rfl rfl rfl rfl rfl (by kernel_rfl) Tryz.func10 (by kernel_rfl)
    (of_decide_eq_true (by kernel_rfl)) (by unfold Func.isWrapper; first | (rw [if_pos (by decide +kernel)]; kernel_rfl) | (rw [if_neg (by decide +kernel)]; exact ⟨rfl, rfl⟩))
    (fun os started H enc _ => lifted os started H enc)
theorem proved : Rows.CpuPrefixesCardSaid :=
  Claim7.holds_tied_plain_at .later [] [.data, .data] true _ false
    over (fun _ h => by cases h) (by kernel_rfl) (fun _ h => by cases h) cpuPrefixes_row_tie rfl ⟨rfl, rfl⟩ (by kernel_rfl) rfl
    (fun f fn hf hfn => by
      obtain rfl : f = 10 := Option.some.inj ((show Tryz.prog.funcNamed "joystick/joysticklaw12.CpuPrefixes" = some 10 by kernel_rfl).symm.trans hf) |>.symm
      obtain rfl : fn = Tryz.f10 := (Option.some.inj (Tryz.func10.symm.trans hfn)).symm
      exact ⟨by kernel_rfl, fun j t ht => by
        rw [Tryz.params10] at ht
        have hm : t ∈ [3, 4, 5] := by simpa using Array.mem_of_getElem? ht
        have hall : ([3, 4, 5].all fun u => !Tryz.prog.wantsStandIn u) = true := by kernel_rfl
        exact (show Tryz.prog.wantsStandIn t = false by simpa using List.all_eq_true.1 hall t hm)⟩)
    (by kernel_rfl)
end Go.Proofs.YtljjgakfnajifaaGreatDoor.cpuPrefixes
