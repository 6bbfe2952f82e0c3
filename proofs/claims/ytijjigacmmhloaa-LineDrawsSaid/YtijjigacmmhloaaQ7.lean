import Derived.Test.YtijjigacmmhloaaQ6
import Derived.WalkMore
namespace Go.Proofs.Ytijjigacmmhloaa
open Go.RowKit
theorem rcells_at (f : Nat → Nat) (o c : Bool) (i : Nat) : (rcells f o c)[i]? = if i < 256 then some (.int .u8 (f i : Int)) else if i = 256 then some (.bool o) else if i = 257 then some (.bool c) else none := by
  split
  · exact rcells_color f o c i (by assumption)
  · split
    · rename_i h; subst h; exact rcells_over f o c
    · split
      · rename_i h; subst h; exact rcells_meets f o c
      · rw [List.getElem?_eq_none_iff, rcells_length]; omega
theorem rcells_set (f : Nat → Nat) (o c : Bool) (i v : Nat) (h : i < 256) : (rcells f o c).set i (.int .u8 (v : Int)) = rcells (upd f i v) o c := by
  apply List.ext_getElem?
  intro j
  rw [List.getElem?_set, rcells_length, rcells_at, rcells_at]
  unfold upd
  by_cases hj : i = j
  · subst hj
    have : i < 258 := by omega
    simp [h, this]
  · rw [if_neg hj]
    simp only [if_neg (show ¬ j = i from fun e => hj e.symm)]
theorem rcells_setC (f : Nat → Nat) (o c b : Bool) : (rcells f o c).set 257 (.bool b) = rcells f o b := by
  apply List.ext_getElem?
  intro j
  rw [List.getElem?_set, rcells_length, rcells_at, rcells_at]
  by_cases hj : 257 = j
  · subst hj; simp
  · rw [if_neg hj]
    simp only [if_neg (show ¬ j = 257 from fun e => hj e.symm)]
theorem rcells_setO (f : Nat → Nat) (o c b : Bool) : (rcells f o c).set 256 (.bool b) = rcells f b c := by
  apply List.ext_getElem?
  intro j
  rw [List.getElem?_set, rcells_length, rcells_at, rcells_at]
  by_cases hj : 256 = j
  · subst hj; simp
  · rw [if_neg hj]
    simp only [if_neg (show ¬ j = 256 from fun e => hj e.symm)]
section
variable {P : Program} {W0 w : World} {l l' : List (Nat × TypeId × List Value)} {ops : Array Oper} {rest : List Oper} {o : Oper} {a : Act} {Q : Exit → Act → World → Prop}
theorem own_rput {ty t : TypeId} {x y : Operand} {g i v : Nat} {V : Int} {F : Nat → Nat} {p c : Bool} (HM : Hid (Own W0 w l)) (ho : o.op = .store ty x y) (hx : a.eval x = .pointer (some ⟨g, i, none⟩)) (hy : a.eval y = .int .u8 V) (hV : V = (v : Int))
    (hty : One P ty) (hi : i < 256) (hsel : Sel l g t (rcells F p c)) (hs : Put l g t (rcells F p c) (rcells (upd F i v) p c) l') (hw : Region.wanted o (yielded ops a.tmps) = true)
    (hd : o.dst = none) (h : ∀ w', Hid (Own W0 w' l') → wpList P ops Q rest a w') : wpList P ops Q (o :: rest) a w := by
  subst hV
  refine own_put (l' := l') HM ho hx hy hsel ?_ hty.size rfl hw (by rw [rcells_length]; omega) hd h
  rw [rcells_set F p c i v hi]
  exact hs
theorem own_rputC {ty t : TypeId} {x y : Operand} {g : Nat} {b : Bool} {F : Nat → Nat} {p c : Bool} (HM : Hid (Own W0 w l)) (ho : o.op = .store ty x y) (hx : a.eval x = .pointer (some ⟨g, 257, none⟩)) (hy : a.eval y = .bool b)
    (hty : One P ty) (hsel : Sel l g t (rcells F p c)) (hs : Put l g t (rcells F p c) (rcells F p b) l') (hw : Region.wanted o (yielded ops a.tmps) = true)
    (hd : o.dst = none) (h : ∀ w', Hid (Own W0 w' l') → wpList P ops Q rest a w') : wpList P ops Q (o :: rest) a w := by
  refine own_put (l' := l') HM ho hx hy hsel ?_ hty.size rfl hw (by rw [rcells_length]; omega) hd h
  rw [rcells_setC]
  exact hs
theorem own_rputO {ty t : TypeId} {x y : Operand} {g : Nat} {b : Bool} {F : Nat → Nat} {p c : Bool} (HM : Hid (Own W0 w l)) (ho : o.op = .store ty x y) (hx : a.eval x = .pointer (some ⟨g, 256, none⟩)) (hy : a.eval y = .bool b)
    (hty : One P ty) (hsel : Sel l g t (rcells F p c)) (hs : Put l g t (rcells F p c) (rcells F b c) l') (hw : Region.wanted o (yielded ops a.tmps) = true)
    (hd : o.dst = none) (h : ∀ w', Hid (Own W0 w' l') → wpList P ops Q rest a w') : wpList P ops Q (o :: rest) a w := by
  refine own_put (l' := l') HM ho hx hy hsel ?_ hty.size rfl hw (by rw [rcells_length]; omega) hd h
  rw [rcells_setO]
  exact hs
end
theorem sp_idx8 (D : Nat → Nat) (j d : Nat) (hj : j < 8) (hd : D j = d) (w : World) : (Instr.index 70 (.agg #[.int .u8 (D 0 : Int), .int .u8 (D 1 : Int), .int .u8 (D 2 : Int), .int .u8 (D 3 : Int), .int .u8 (D 4 : Int), .int .u8 (D 5 : Int), .int .u8 (D 6 : Int), .int .u8 (D 7 : Int)]) (.int .i64 (j : Int))).run Try.prog w = .ok (.int .u8 (d : Int)) w := by
  subst hd
  obtain rfl | rfl | rfl | rfl | rfl | rfl | rfl | rfl : j = 0 ∨ j = 1 ∨ j = 2 ∨ j = 3 ∨ j = 4 ∨ j = 5 ∨ j = 6 ∨ j = 7 := by omega
  all_goals kernel_rfl
set_option maxRecDepth 100000 in
theorem put_new {W0 w : World} {e0 : Nat × TypeId × List Value} {l : List (Nat × TypeId × List Value)} (g : Nat) (f : Nat → Nat) (o c : Bool) (x d : Nat) (hx : x < 256) (hd : d < 16) (hf : f x = 0) (HM : Hid (Own W0 w (e0 :: (g, 53, rcells f o c) :: l))) :
    Calls Try.prog 51 #[.pointer (some ⟨g, 0, none⟩), .int .i64 (x : Int), .int .u8 (d : Int)] w fun e w' => e = .returned (.tuple #[]) ∧ Hid (Own W0 w' (e0 :: (g, 53, rcells (upd f x (16 + d)) o c) :: l)) := by
  have HC : Hid ((rcells f o c)[x]? = some (.int .u8 0)) := Lib.hid (by rw [rcells_color f o c x hx, hf]; rfl)
  have hx1 : (x : Int) < 256 := by omega
  have hd1 : (d : Int) < 16 := by omega
  have HX := Lib.hid hx
  have HV : Hid ((16 : Int) + (d : Int) = ((16 + d : Nat) : Int)) := Lib.hid (by omega)
  clear hx hd hf
  go_enter Try.func51, Try.ntmps51
  go_wp2_with (first | ((with_reducible apply own_get HM); exact rfl; exact rfl; exact oneU8; (first | with_reducible exact .z | with_reducible exact .s .z | with_reducible exact .s (.s .z) | with_reducible exact .s (.s (.s .z))); exact HC.out; exact rfl) | ((with_reducible apply own_rput HM); exact rfl; exact rfl; exact rfl; exact HV.out; exact oneU8; exact HX.out; (first | with_reducible exact .z | with_reducible exact .s .z | with_reducible exact .s (.s .z) | with_reducible exact .s (.s (.s .z))); (first | with_reducible exact .z | with_reducible exact .s .z | with_reducible exact .s (.s .z) | with_reducible exact .s (.s (.s .z))); exact rfl; exact rfl; clear HM; intro w' HM))
  (try rw [Exit.noGoto_normal])
  (first
    | go_end0
    | ((try simp only [Exit.inBlock, Exit.then]); refine bodyPost_ret (results_none rfl _ _ _) rfl ?_))
  exact ⟨rfl, HM⟩
set_option maxRecDepth 100000 in
theorem put_hit {W0 w : World} {e0 : Nat × TypeId × List Value} {l : List (Nat × TypeId × List Value)} (g : Nat) (f : Nat → Nat) (o c : Bool) (x d : Nat) (hx : x < 256) (hf : ¬ f x = 0) (HM : Hid (Own W0 w (e0 :: (g, 53, rcells f o c) :: l))) :
    Calls Try.prog 51 #[.pointer (some ⟨g, 0, none⟩), .int .i64 (x : Int), .int .u8 (d : Int)] w fun e w' => e = .returned (.tuple #[]) ∧ Hid (Own W0 w' (e0 :: (g, 53, rcells f o true) :: l)) := by
  obtain ⟨n, hn⟩ : ∃ n, f x = n := ⟨_, rfl⟩
  have HC : Hid ((rcells f o c)[x]? = some (.int .u8 (n : Int))) := Lib.hid (by rw [rcells_color f o c x hx, hn])
  have hx1 : (x : Int) < 256 := by omega
  have hn1 : ((n : Int) != 0) = true := by simp; omega
  clear hx hf hn
  go_enter Try.func51, Try.ntmps51
  go_wp2_with (first | ((with_reducible apply own_get HM); exact rfl; exact rfl; exact oneU8; (first | with_reducible exact .z | with_reducible exact .s .z | with_reducible exact .s (.s .z) | with_reducible exact .s (.s (.s .z))); exact HC.out; exact rfl) | ((with_reducible apply own_rputC HM); exact rfl; exact rfl; exact rfl; exact oneBool; (first | with_reducible exact .z | with_reducible exact .s .z | with_reducible exact .s (.s .z) | with_reducible exact .s (.s (.s .z))); (first | with_reducible exact .z | with_reducible exact .s .z | with_reducible exact .s (.s .z) | with_reducible exact .s (.s (.s .z))); exact rfl; exact rfl; clear HM; intro w' HM))
  (try rw [Exit.noGoto_normal])
  (first
    | go_end0
    | ((try simp only [Exit.inBlock, Exit.then]); refine bodyPost_ret (results_none rfl _ _ _) rfl ?_))
  exact ⟨rfl, HM⟩
set_option maxRecDepth 100000 in
set_option maxHeartbeats 3200000 in
theorem lay_1 {W0 w : World} {l : List (Nat × TypeId × List Value)} (g : Nat) (f : Nat → Nat) (o c : Bool) (X : Int) (D dd : Nat → Nat) (hX0 : -8 ≤ X) (hX1 : X ≤ 255) (hD : Hid (∀ i, D i < 16)) (hdd : Hid (dd = layD X D 1)) (HM : Hid (Own W0 w ((g, 53, rcells f o c) :: l))) :
    Calls Try.prog 34 #[.pointer (some ⟨g, 0, none⟩), .int .i64 X, .agg #[.int .u8 (D 0 : Int), .int .u8 (D 1 : Int), .int .u8 (D 2 : Int), .int .u8 (D 3 : Int), .int .u8 (D 4 : Int), .int .u8 (D 5 : Int), .int .u8 (D 6 : Int), .int .u8 (D 7 : Int)], .int .i64 1] w fun e w' => e = .returned (.tuple #[]) ∧ Hid (Own W0 w' ((g, 53, rcells (layC f dd) o (c || layK f dd)) :: l)) := by
  have tg1 : Hid True := trivial
  have tg2 : Hid True := trivial
  have HX0 := Lib.hid hX0
  have HX1 := Lib.hid hX1
  clear hX0 hX1
  go_enter Try.func34, Try.ntmps34
  go_upto_region 2 with (first | ((with_reducible apply own_box HM); exact rfl; exact rfl; exact rfl; exact rfl; clear HM; intro w' g2 HM) | ((with_reducible apply own_box HM); exact rfl; (conv => lhs; whnf); exact rfl; exact rfl; (first | (clear tg1 HM; intro w' g1 HM) | (clear tg2 HM; intro w' g2 HM) | (clear tg3 HM; intro w' g3 HM) | (clear tg4 HM; intro w' g4 HM) | (clear HM; intro w' g' HM))) | ((with_reducible apply own_cell HM); exact rfl; exact rfl; (first | (with_reducible exact oneU8) | (with_reducible exact oneInt)); exact sS; exact dS; exact rfl) | ((with_reducible apply own_load HM); exact rfl; exact rfl; (first | (with_reducible exact agg8)); exact sS; exact dS; exact tS; exact rfl) | ((with_reducible apply own_store HM); exact rfl; exact rfl; (conv => lhs; whnf); exact rfl; exact sS; exact vS; exact sS; (first | (with_reducible exact (agg8).size) | (with_reducible exact (oneU8).size) | (with_reducible exact (oneInt).size)); exact rfl; exact rfl; exact rfl; exact rfl; clear HM; intro w' HM))
  go_step3
  go_upto_region 2 with fail
  go_step3
  go_upto_region 2 with (first | ((with_reducible apply own_box HM); exact rfl; (conv => lhs; whnf); exact rfl; exact rfl; (first | (clear tg1 HM; intro w' g1 HM) | (clear tg2 HM; intro w' g2 HM) | (clear tg3 HM; intro w' g3 HM) | (clear tg4 HM; intro w' g4 HM) | (clear HM; intro w' g' HM))) | ((with_reducible apply own_cell HM); exact rfl; exact rfl; (first | (with_reducible exact oneU8) | (with_reducible exact oneInt)); exact sS; exact dS; exact rfl) | ((with_reducible apply own_load HM); exact rfl; exact rfl; (first | (with_reducible exact agg8)); exact sS; exact dS; exact tS; exact rfl) | ((with_reducible apply own_store HM); exact rfl; exact rfl; (conv => lhs; whnf); exact rfl; exact sS; exact vS; exact sS; (first | (with_reducible exact (agg8).size) | (with_reducible exact (oneU8).size) | (with_reducible exact (oneInt).size)); exact rfl; exact rfl; exact rfl; exact rfl; clear HM; intro w' HM))
  go_loopw [1, 11] (fun xv iv wr => ∃ (j : Nat) (x : Int), j ≤ 8 ∧ xv = .int .i64 x ∧ iv = .int .i64 (j : Int) ∧ Hid (x = X + (j * 1 : Nat)) ∧ Hid (Own W0 wr ((g2, 70, [.int .u8 (D 0 : Int), .int .u8 (D 1 : Int), .int .u8 (D 2 : Int), .int .u8 (D 3 : Int), .int .u8 (D 4 : Int), .int .u8 (D 5 : Int), .int .u8 (D 6 : Int), .int .u8 (D 7 : Int)]) :: (g, 53, rcells (layU f dd x) o (c || layV f dd x)) :: l))) (fun _ iv _ => 8 - (intOf iv).toNat)
  case atStart =>
    refine ⟨0, X, by omega, rfl, rfl, Lib.hid (by omega), ?_⟩
    rw [layU_start f dd X D 1 hdd.out, layV_start f dd X D 1 hdd.out, Bool.or_false]
    exact HM
  case round =>
    clear HM
    obtain ⟨j, x, hj, rfl, rfl, hx, HM⟩ := hrel
    by_cases hlt : j < 8
    · obtain ⟨d, hd⟩ : ∃ d, D j = d := ⟨_, rfl⟩
      have HI := Lib.hid fun w' => sp_idx8 D j d hlt hd w'
      have d16 : d < 16 := hd ▸ hD.out j
      have D16 := Lib.hid d16
      have d17 : (d : Int) < 16 := by omega
      have hd' := Lib.hid hd
      have HJ := Lib.hid hlt
      have hlt' : (j : Int) < 8 := by omega
      clear hlt hj hd d16
      go_upto_region 5 with (first | ((with_reducible apply own_index); exact rfl; exact rfl; exact rfl; exact HI.out; exact rfl) | ((with_reducible apply own_box HM); exact rfl; (conv => lhs; whnf); exact rfl; exact rfl; (first | (clear tg1 HM; intro w' g1 HM) | (clear tg2 HM; intro w' g2 HM) | (clear tg3 HM; intro w' g3 HM) | (clear tg4 HM; intro w' g4 HM) | (clear HM; intro w' g' HM))) | ((with_reducible apply own_cell HM); exact rfl; exact rfl; (first | (with_reducible exact oneU8) | (with_reducible exact oneInt)); exact sS; exact dS; exact rfl) | ((with_reducible apply own_load HM); exact rfl; exact rfl; (first | (with_reducible exact agg8)); exact sS; exact dS; exact tS; exact rfl) | ((with_reducible apply own_store HM); exact rfl; exact rfl; (conv => lhs; whnf); exact rfl; exact sS; exact vS; exact sS; (first | (with_reducible exact (agg8).size) | (with_reducible exact (oneU8).size) | (with_reducible exact (oneInt).size)); exact rfl; exact rfl; exact rfl; exact rfl; clear HM; intro w' HM))
      clear HI
      go_loopw [1, 15] (fun xv iv wr => ∃ (t : Nat) (x : Int), t ≤ 1 ∧ xv = .int .i64 x ∧ iv = .int .i64 (t : Int) ∧ Hid (x = X + (j * 1 + t : Nat)) ∧ Hid (Own W0 wr ((g2, 70, [.int .u8 (D 0 : Int), .int .u8 (D 1 : Int), .int .u8 (D 2 : Int), .int .u8 (D 3 : Int), .int .u8 (D 4 : Int), .int .u8 (D 5 : Int), .int .u8 (D 6 : Int), .int .u8 (D 7 : Int)]) :: (g, 53, rcells (layU f dd x) o (c || layV f dd x)) :: l))) (fun _ iv _ => 1 - (intOf iv).toNat)
      case atStart => exact ⟨0, x, by omega, rfl, rfl, Lib.hid (by have := hx.out; omega), HM⟩
      case round =>
        clear HM hx
        obtain ⟨t, x, ht, rfl, rfl, hx, HM⟩ := hrel
        by_cases hlt2 : t < 1
        · have HT := Lib.hid hlt2
          have hlt2' : (t : Int) < 1 := by omega
          have x0 : -8 ≤ x := by have := hx.out; have := HX0.out; omega
          have x1 : x ≤ 300 := by have := hx.out; have := HX1.out; have := HJ.out; omega
          have HDA := Lib.hid fun (a : Nat) ha => (congrFun hdd.out a).trans ((layD_at X x D 1 j t HT.out HJ.out hx.out a ha).trans hd'.out)
          clear hlt2 ht
          by_cases h256 : 256 ≤ x
          · rw [layU_end f dd x o _ h256, layV_end f dd x h256] at HM
            go_wp2_with (first | ((with_reducible apply own_box HM); exact rfl; (conv => lhs; whnf); exact rfl; exact rfl; (first | (clear tg1 HM; intro w' g1 HM) | (clear tg2 HM; intro w' g2 HM) | (clear tg3 HM; intro w' g3 HM) | (clear tg4 HM; intro w' g4 HM) | (clear HM; intro w' g' HM))) | ((with_reducible apply own_cell HM); exact rfl; exact rfl; (first | (with_reducible exact oneU8) | (with_reducible exact oneInt)); exact sS; exact dS; exact rfl) | ((with_reducible apply own_load HM); exact rfl; exact rfl; (first | (with_reducible exact agg8)); exact sS; exact dS; exact tS; exact rfl) | ((with_reducible apply own_store HM); exact rfl; exact rfl; (conv => lhs; whnf); exact rfl; exact sS; exact vS; exact sS; (first | (with_reducible exact (agg8).size) | (with_reducible exact (oneU8).size) | (with_reducible exact (oneInt).size)); exact rfl; exact rfl; exact rfl; exact rfl; clear HM; intro w' HM))
            (try rw [Exit.noGoto_normal])
            (first
              | go_end0
              | ((try simp only [Exit.inBlock, Exit.then]); refine bodyPost_ret (results_none rfl _ _ _) rfl ?_))
            exact ⟨rfl, Lib.hid HM.out.forget⟩
          · have h255 : ¬ 256 ≤ x := h256
            by_cases h0 : 0 ≤ x
            · obtain ⟨a, ha⟩ : ∃ a : Nat, x = (a : Int) := ⟨x.toNat, by omega⟩
              subst ha
              have hda := Lib.hid (HDA.out a rfl)
              have a256 : a < 256 := by omega
              have A256 := Lib.hid a256
              have a257 : (a : Int) < 256 := by omega
              by_cases d0 : d = 0
              · subst d0
                obtain ⟨e1, e2⟩ := lay_skip f dd (a : Int) (fun b hb => by (obtain rfl : b = a := by omega); exact hda.out)
                rw [← e1, ← e2] at HM
                clear e1 e2 h256 h255 a256
                go_wp2_with (first | ((with_reducible apply own_box HM); exact rfl; (conv => lhs; whnf); exact rfl; exact rfl; (first | (clear tg1 HM; intro w' g1 HM) | (clear tg2 HM; intro w' g2 HM) | (clear tg3 HM; intro w' g3 HM) | (clear tg4 HM; intro w' g4 HM) | (clear HM; intro w' g' HM))) | ((with_reducible apply own_cell HM); exact rfl; exact rfl; (first | (with_reducible exact oneU8) | (with_reducible exact oneInt)); exact sS; exact dS; exact rfl) | ((with_reducible apply own_load HM); exact rfl; exact rfl; (first | (with_reducible exact agg8)); exact sS; exact dS; exact tS; exact rfl) | ((with_reducible apply own_store HM); exact rfl; exact rfl; (conv => lhs; whnf); exact rfl; exact sS; exact vS; exact sS; (first | (with_reducible exact (agg8).size) | (with_reducible exact (oneU8).size) | (with_reducible exact (oneInt).size)); exact rfl; exact rfl; exact rfl; exact rfl; clear HM; intro w' HM))
                go_roundw
                case rel => exact ⟨t + 1, _, by have := HT.out; omega, rfl, by go_num, Lib.hid (by have := hx.out; omega), HM⟩
                case measure => have := HT.out; simp [intOf]; omega
              · have d1 : ((d : Int) != 0) = true := by simp; omega
                have D0 := Lib.hid d0
                clear d0 h256 h255 a256
                by_cases hf : f a = 0
                · have hu : layU f dd (a : Int) a = 0 := (layU_here f dd a).trans hf
                  obtain ⟨e1, e2⟩ := lay_new f dd a d hda.out D0.out hf
                  have HN : Hid (∀ w', Hid (Own W0 w' ((g2, 70, [.int .u8 (D 0 : Int), .int .u8 (D 1 : Int), .int .u8 (D 2 : Int), .int .u8 (D 3 : Int), .int .u8 (D 4 : Int), .int .u8 (D 5 : Int), .int .u8 (D 6 : Int), .int .u8 (D 7 : Int)]) :: (g, 53, rcells (layU f dd (a : Int)) o (c || layV f dd (a : Int))) :: l)) → Calls Try.prog 51 #[.pointer (some ⟨g, 0, none⟩), .int .i64 (a : Int), .int .u8 (d : Int)] w' fun e w'' => e = .returned (.tuple #[]) ∧ Hid (Own W0 w'' ((g2, 70, [.int .u8 (D 0 : Int), .int .u8 (D 1 : Int), .int .u8 (D 2 : Int), .int .u8 (D 3 : Int), .int .u8 (D 4 : Int), .int .u8 (D 5 : Int), .int .u8 (D 6 : Int), .int .u8 (D 7 : Int)]) :: (g, 53, rcells (layU f dd ((a : Int) + 1)) o (c || layV f dd ((a : Int) + 1))) :: l))) := Lib.hid fun w' HM' => by
                    rw [e1, e2]
                    exact put_new g _ o _ a d A256.out D16.out hu HM'
                  clear e1 e2 hf hu
                  go_wp2_with (first | (go_at_call 51; (with_reducible refine (HN.out _ HM).mono ?_); rintro e w' ⟨rfl, HM'⟩; clear HM; have HM := HM'; clear HM') | ((with_reducible apply own_box HM); exact rfl; (conv => lhs; whnf); exact rfl; exact rfl; (first | (clear tg1 HM; intro w' g1 HM) | (clear tg2 HM; intro w' g2 HM) | (clear tg3 HM; intro w' g3 HM) | (clear tg4 HM; intro w' g4 HM) | (clear HM; intro w' g' HM))) | ((with_reducible apply own_cell HM); exact rfl; exact rfl; (first | (with_reducible exact oneU8) | (with_reducible exact oneInt)); exact sS; exact dS; exact rfl) | ((with_reducible apply own_load HM); exact rfl; exact rfl; (first | (with_reducible exact agg8)); exact sS; exact dS; exact tS; exact rfl) | ((with_reducible apply own_store HM); exact rfl; exact rfl; (conv => lhs; whnf); exact rfl; exact sS; exact vS; exact sS; (first | (with_reducible exact (agg8).size) | (with_reducible exact (oneU8).size) | (with_reducible exact (oneInt).size)); exact rfl; exact rfl; exact rfl; exact rfl; clear HM; intro w' HM))
                  go_roundw
                  case rel => exact ⟨t + 1, _, by have := HT.out; omega, rfl, by go_num, Lib.hid (by have := hx.out; omega), HM⟩
                  case measure => have := HT.out; simp [intOf]; omega
                · have hu : ¬ layU f dd (a : Int) a = 0 := by rw [layU_here]; exact hf
                  obtain ⟨e1, e2⟩ := lay_hit f dd a d A256.out hda.out D0.out hf
                  have HN : Hid (∀ w', Hid (Own W0 w' ((g2, 70, [.int .u8 (D 0 : Int), .int .u8 (D 1 : Int), .int .u8 (D 2 : Int), .int .u8 (D 3 : Int), .int .u8 (D 4 : Int), .int .u8 (D 5 : Int), .int .u8 (D 6 : Int), .int .u8 (D 7 : Int)]) :: (g, 53, rcells (layU f dd (a : Int)) o (c || layV f dd (a : Int))) :: l)) → Calls Try.prog 51 #[.pointer (some ⟨g, 0, none⟩), .int .i64 (a : Int), .int .u8 (d : Int)] w' fun e w'' => e = .returned (.tuple #[]) ∧ Hid (Own W0 w'' ((g2, 70, [.int .u8 (D 0 : Int), .int .u8 (D 1 : Int), .int .u8 (D 2 : Int), .int .u8 (D 3 : Int), .int .u8 (D 4 : Int), .int .u8 (D 5 : Int), .int .u8 (D 6 : Int), .int .u8 (D 7 : Int)]) :: (g, 53, rcells (layU f dd ((a : Int) + 1)) o (c || layV f dd ((a : Int) + 1))) :: l))) := Lib.hid fun w' HM' => by
                    rw [e1, e2, Bool.or_true]
                    exact put_hit g _ o _ a d A256.out hu HM'
                  clear e1 e2 hf hu
                  go_wp2_with (first | (go_at_call 51; (with_reducible refine (HN.out _ HM).mono ?_); rintro e w' ⟨rfl, HM'⟩; clear HM; have HM := HM'; clear HM') | ((with_reducible apply own_box HM); exact rfl; (conv => lhs; whnf); exact rfl; exact rfl; (first | (clear tg1 HM; intro w' g1 HM) | (clear tg2 HM; intro w' g2 HM) | (clear tg3 HM; intro w' g3 HM) | (clear tg4 HM; intro w' g4 HM) | (clear HM; intro w' g' HM))) | ((with_reducible apply own_cell HM); exact rfl; exact rfl; (first | (with_reducible exact oneU8) | (with_reducible exact oneInt)); exact sS; exact dS; exact rfl) | ((with_reducible apply own_load HM); exact rfl; exact rfl; (first | (with_reducible exact agg8)); exact sS; exact dS; exact tS; exact rfl) | ((with_reducible apply own_store HM); exact rfl; exact rfl; (conv => lhs; whnf); exact rfl; exact sS; exact vS; exact sS; (first | (with_reducible exact (agg8).size) | (with_reducible exact (oneU8).size) | (with_reducible exact (oneInt).size)); exact rfl; exact rfl; exact rfl; exact rfl; clear HM; intro w' HM))
                  go_roundw
                  case rel => exact ⟨t + 1, _, by have := HT.out; omega, rfl, by go_num, Lib.hid (by have := hx.out; omega), HM⟩
                  case measure => have := HT.out; simp [intOf]; omega
            · obtain ⟨e1, e2⟩ := lay_skip f dd x (fun b hb => by omega)
              rw [← e1, ← e2] at HM
              clear e1 e2 h256
              have h1 : x < 0 := by omega
              go_wp2_with (first | ((with_reducible apply own_box HM); exact rfl; (conv => lhs; whnf); exact rfl; exact rfl; (first | (clear tg1 HM; intro w' g1 HM) | (clear tg2 HM; intro w' g2 HM) | (clear tg3 HM; intro w' g3 HM) | (clear tg4 HM; intro w' g4 HM) | (clear HM; intro w' g' HM))) | ((with_reducible apply own_cell HM); exact rfl; exact rfl; (first | (with_reducible exact oneU8) | (with_reducible exact oneInt)); exact sS; exact dS; exact rfl) | ((with_reducible apply own_load HM); exact rfl; exact rfl; (first | (with_reducible exact agg8)); exact sS; exact dS; exact tS; exact rfl) | ((with_reducible apply own_store HM); exact rfl; exact rfl; (conv => lhs; whnf); exact rfl; exact sS; exact vS; exact sS; (first | (with_reducible exact (agg8).size) | (with_reducible exact (oneU8).size) | (with_reducible exact (oneInt).size)); exact rfl; exact rfl; exact rfl; exact rfl; clear HM; intro w' HM))
              go_roundw
              case rel => exact ⟨t + 1, _, by have := HT.out; omega, rfl, by go_num, Lib.hid (by have := hx.out; omega), HM⟩
              case measure => have := HT.out; simp [intOf]; omega
        · obtain rfl : t = 1 := by omega
          go_wp2_with (first | ((with_reducible apply own_box HM); exact rfl; (conv => lhs; whnf); exact rfl; exact rfl; (first | (clear tg1 HM; intro w' g1 HM) | (clear tg2 HM; intro w' g2 HM) | (clear tg3 HM; intro w' g3 HM) | (clear tg4 HM; intro w' g4 HM) | (clear HM; intro w' g' HM))) | ((with_reducible apply own_cell HM); exact rfl; exact rfl; (first | (with_reducible exact oneU8) | (with_reducible exact oneInt)); exact sS; exact dS; exact rfl) | ((with_reducible apply own_load HM); exact rfl; exact rfl; (first | (with_reducible exact agg8)); exact sS; exact dS; exact tS; exact rfl) | ((with_reducible apply own_store HM); exact rfl; exact rfl; (conv => lhs; whnf); exact rfl; exact sS; exact vS; exact sS; (first | (with_reducible exact (agg8).size) | (with_reducible exact (oneU8).size) | (with_reducible exact (oneInt).size)); exact rfl; exact rfl; exact rfl; exact rfl; clear HM; intro w' HM))
          go_roundw
          case rel => exact ⟨j + 1, x, by have := HJ.out; omega, rfl, by go_num, Lib.hid (by have := hx.out; omega), HM⟩
          case measure => have := HJ.out; simp [intOf]; omega
    · obtain rfl : j = 8 := by omega
      obtain ⟨e1, e2⟩ := lay_past f dd X x D 1 hdd.out (by have := hx.out; omega)
      rw [e1, e2] at HM
      clear e1 e2
      go_wp2_with (first | ((with_reducible apply own_box HM); exact rfl; (conv => lhs; whnf); exact rfl; exact rfl; (first | (clear tg1 HM; intro w' g1 HM) | (clear tg2 HM; intro w' g2 HM) | (clear tg3 HM; intro w' g3 HM) | (clear tg4 HM; intro w' g4 HM) | (clear HM; intro w' g' HM))) | ((with_reducible apply own_cell HM); exact rfl; exact rfl; (first | (with_reducible exact oneU8) | (with_reducible exact oneInt)); exact sS; exact dS; exact rfl) | ((with_reducible apply own_load HM); exact rfl; exact rfl; (first | (with_reducible exact agg8)); exact sS; exact dS; exact tS; exact rfl) | ((with_reducible apply own_store HM); exact rfl; exact rfl; (conv => lhs; whnf); exact rfl; exact sS; exact vS; exact sS; (first | (with_reducible exact (agg8).size) | (with_reducible exact (oneU8).size) | (with_reducible exact (oneInt).size)); exact rfl; exact rfl; exact rfl; exact rfl; clear HM; intro w' HM))
      (try rw [Exit.noGoto_normal])
      (first
        | go_end0
        | ((try simp only [Exit.inBlock, Exit.then]); refine bodyPost_ret (results_none rfl _ _ _) rfl ?_))
      exact ⟨rfl, Lib.hid HM.out.forget⟩
set_option maxRecDepth 100000 in
set_option maxHeartbeats 3200000 in
theorem lay_2 {W0 w : World} {l : List (Nat × TypeId × List Value)} (g : Nat) (f : Nat → Nat) (o c : Bool) (X : Int) (D dd : Nat → Nat) (hX0 : -8 ≤ X) (hX1 : X ≤ 255) (hD : Hid (∀ i, D i < 16)) (hdd : Hid (dd = layD X D 2)) (HM : Hid (Own W0 w ((g, 53, rcells f o c) :: l))) :
    Calls Try.prog 34 #[.pointer (some ⟨g, 0, none⟩), .int .i64 X, .agg #[.int .u8 (D 0 : Int), .int .u8 (D 1 : Int), .int .u8 (D 2 : Int), .int .u8 (D 3 : Int), .int .u8 (D 4 : Int), .int .u8 (D 5 : Int), .int .u8 (D 6 : Int), .int .u8 (D 7 : Int)], .int .i64 2] w fun e w' => e = .returned (.tuple #[]) ∧ Hid (Own W0 w' ((g, 53, rcells (layC f dd) o (c || layK f dd)) :: l)) := by
  have tg1 : Hid True := trivial
  have tg2 : Hid True := trivial
  have HX0 := Lib.hid hX0
  have HX1 := Lib.hid hX1
  clear hX0 hX1
  go_enter Try.func34, Try.ntmps34
  go_upto_region 2 with (first | ((with_reducible apply own_box HM); exact rfl; exact rfl; exact rfl; exact rfl; clear HM; intro w' g2 HM) | ((with_reducible apply own_box HM); exact rfl; (conv => lhs; whnf); exact rfl; exact rfl; (first | (clear tg1 HM; intro w' g1 HM) | (clear tg2 HM; intro w' g2 HM) | (clear tg3 HM; intro w' g3 HM) | (clear tg4 HM; intro w' g4 HM) | (clear HM; intro w' g' HM))) | ((with_reducible apply own_cell HM); exact rfl; exact rfl; (first | (with_reducible exact oneU8) | (with_reducible exact oneInt)); exact sS; exact dS; exact rfl) | ((with_reducible apply own_load HM); exact rfl; exact rfl; (first | (with_reducible exact agg8)); exact sS; exact dS; exact tS; exact rfl) | ((with_reducible apply own_store HM); exact rfl; exact rfl; (conv => lhs; whnf); exact rfl; exact sS; exact vS; exact sS; (first | (with_reducible exact (agg8).size) | (with_reducible exact (oneU8).size) | (with_reducible exact (oneInt).size)); exact rfl; exact rfl; exact rfl; exact rfl; clear HM; intro w' HM))
  go_step3
  go_upto_region 2 with fail
  go_step3
  go_upto_region 2 with (first | ((with_reducible apply own_box HM); exact rfl; (conv => lhs; whnf); exact rfl; exact rfl; (first | (clear tg1 HM; intro w' g1 HM) | (clear tg2 HM; intro w' g2 HM) | (clear tg3 HM; intro w' g3 HM) | (clear tg4 HM; intro w' g4 HM) | (clear HM; intro w' g' HM))) | ((with_reducible apply own_cell HM); exact rfl; exact rfl; (first | (with_reducible exact oneU8) | (with_reducible exact oneInt)); exact sS; exact dS; exact rfl) | ((with_reducible apply own_load HM); exact rfl; exact rfl; (first | (with_reducible exact agg8)); exact sS; exact dS; exact tS; exact rfl) | ((with_reducible apply own_store HM); exact rfl; exact rfl; (conv => lhs; whnf); exact rfl; exact sS; exact vS; exact sS; (first | (with_reducible exact (agg8).size) | (with_reducible exact (oneU8).size) | (with_reducible exact (oneInt).size)); exact rfl; exact rfl; exact rfl; exact rfl; clear HM; intro w' HM))
  go_loopw [1, 11] (fun xv iv wr => ∃ (j : Nat) (x : Int), j ≤ 8 ∧ xv = .int .i64 x ∧ iv = .int .i64 (j : Int) ∧ Hid (x = X + (j * 2 : Nat)) ∧ Hid (Own W0 wr ((g2, 70, [.int .u8 (D 0 : Int), .int .u8 (D 1 : Int), .int .u8 (D 2 : Int), .int .u8 (D 3 : Int), .int .u8 (D 4 : Int), .int .u8 (D 5 : Int), .int .u8 (D 6 : Int), .int .u8 (D 7 : Int)]) :: (g, 53, rcells (layU f dd x) o (c || layV f dd x)) :: l))) (fun _ iv _ => 8 - (intOf iv).toNat)
  case atStart =>
    refine ⟨0, X, by omega, rfl, rfl, Lib.hid (by omega), ?_⟩
    rw [layU_start f dd X D 2 hdd.out, layV_start f dd X D 2 hdd.out, Bool.or_false]
    exact HM
  case round =>
    clear HM
    obtain ⟨j, x, hj, rfl, rfl, hx, HM⟩ := hrel
    by_cases hlt : j < 8
    · obtain ⟨d, hd⟩ : ∃ d, D j = d := ⟨_, rfl⟩
      have HI := Lib.hid fun w' => sp_idx8 D j d hlt hd w'
      have d16 : d < 16 := hd ▸ hD.out j
      have D16 := Lib.hid d16
      have d17 : (d : Int) < 16 := by omega
      have hd' := Lib.hid hd
      have HJ := Lib.hid hlt
      have hlt' : (j : Int) < 8 := by omega
      clear hlt hj hd d16
      go_upto_region 5 with (first | ((with_reducible apply own_index); exact rfl; exact rfl; exact rfl; exact HI.out; exact rfl) | ((with_reducible apply own_box HM); exact rfl; (conv => lhs; whnf); exact rfl; exact rfl; (first | (clear tg1 HM; intro w' g1 HM) | (clear tg2 HM; intro w' g2 HM) | (clear tg3 HM; intro w' g3 HM) | (clear tg4 HM; intro w' g4 HM) | (clear HM; intro w' g' HM))) | ((with_reducible apply own_cell HM); exact rfl; exact rfl; (first | (with_reducible exact oneU8) | (with_reducible exact oneInt)); exact sS; exact dS; exact rfl) | ((with_reducible apply own_load HM); exact rfl; exact rfl; (first | (with_reducible exact agg8)); exact sS; exact dS; exact tS; exact rfl) | ((with_reducible apply own_store HM); exact rfl; exact rfl; (conv => lhs; whnf); exact rfl; exact sS; exact vS; exact sS; (first | (with_reducible exact (agg8).size) | (with_reducible exact (oneU8).size) | (with_reducible exact (oneInt).size)); exact rfl; exact rfl; exact rfl; exact rfl; clear HM; intro w' HM))
      clear HI
      go_loopw [1, 15] (fun xv iv wr => ∃ (t : Nat) (x : Int), t ≤ 2 ∧ xv = .int .i64 x ∧ iv = .int .i64 (t : Int) ∧ Hid (x = X + (j * 2 + t : Nat)) ∧ Hid (Own W0 wr ((g2, 70, [.int .u8 (D 0 : Int), .int .u8 (D 1 : Int), .int .u8 (D 2 : Int), .int .u8 (D 3 : Int), .int .u8 (D 4 : Int), .int .u8 (D 5 : Int), .int .u8 (D 6 : Int), .int .u8 (D 7 : Int)]) :: (g, 53, rcells (layU f dd x) o (c || layV f dd x)) :: l))) (fun _ iv _ => 2 - (intOf iv).toNat)
      case atStart => exact ⟨0, x, by omega, rfl, rfl, Lib.hid (by have := hx.out; omega), HM⟩
      case round =>
        clear HM hx
        obtain ⟨t, x, ht, rfl, rfl, hx, HM⟩ := hrel
        by_cases hlt2 : t < 2
        · have HT := Lib.hid hlt2
          have hlt2' : (t : Int) < 2 := by omega
          have x0 : -8 ≤ x := by have := hx.out; have := HX0.out; omega
          have x1 : x ≤ 300 := by have := hx.out; have := HX1.out; have := HJ.out; omega
          have HDA := Lib.hid fun (a : Nat) ha => (congrFun hdd.out a).trans ((layD_at X x D 2 j t HT.out HJ.out hx.out a ha).trans hd'.out)
          clear hlt2 ht
          by_cases h256 : 256 ≤ x
          · rw [layU_end f dd x o _ h256, layV_end f dd x h256] at HM
            go_wp2_with (first | ((with_reducible apply own_box HM); exact rfl; (conv => lhs; whnf); exact rfl; exact rfl; (first | (clear tg1 HM; intro w' g1 HM) | (clear tg2 HM; intro w' g2 HM) | (clear tg3 HM; intro w' g3 HM) | (clear tg4 HM; intro w' g4 HM) | (clear HM; intro w' g' HM))) | ((with_reducible apply own_cell HM); exact rfl; exact rfl; (first | (with_reducible exact oneU8) | (with_reducible exact oneInt)); exact sS; exact dS; exact rfl) | ((with_reducible apply own_load HM); exact rfl; exact rfl; (first | (with_reducible exact agg8)); exact sS; exact dS; exact tS; exact rfl) | ((with_reducible apply own_store HM); exact rfl; exact rfl; (conv => lhs; whnf); exact rfl; exact sS; exact vS; exact sS; (first | (with_reducible exact (agg8).size) | (with_reducible exact (oneU8).size) | (with_reducible exact (oneInt).size)); exact rfl; exact rfl; exact rfl; exact rfl; clear HM; intro w' HM))
            (try rw [Exit.noGoto_normal])
            (first
              | go_end0
              | ((try simp only [Exit.inBlock, Exit.then]); refine bodyPost_ret (results_none rfl _ _ _) rfl ?_))
            exact ⟨rfl, Lib.hid HM.out.forget⟩
          · have h255 : ¬ 256 ≤ x := h256
            by_cases h0 : 0 ≤ x
            · obtain ⟨a, ha⟩ : ∃ a : Nat, x = (a : Int) := ⟨x.toNat, by omega⟩
              subst ha
              have hda := Lib.hid (HDA.out a rfl)
              have a256 : a < 256 := by omega
              have A256 := Lib.hid a256
              have a257 : (a : Int) < 256 := by omega
              by_cases d0 : d = 0
              · subst d0
                obtain ⟨e1, e2⟩ := lay_skip f dd (a : Int) (fun b hb => by (obtain rfl : b = a := by omega); exact hda.out)
                rw [← e1, ← e2] at HM
                clear e1 e2 h256 h255 a256
                go_wp2_with (first | ((with_reducible apply own_box HM); exact rfl; (conv => lhs; whnf); exact rfl; exact rfl; (first | (clear tg1 HM; intro w' g1 HM) | (clear tg2 HM; intro w' g2 HM) | (clear tg3 HM; intro w' g3 HM) | (clear tg4 HM; intro w' g4 HM) | (clear HM; intro w' g' HM))) | ((with_reducible apply own_cell HM); exact rfl; exact rfl; (first | (with_reducible exact oneU8) | (with_reducible exact oneInt)); exact sS; exact dS; exact rfl) | ((with_reducible apply own_load HM); exact rfl; exact rfl; (first | (with_reducible exact agg8)); exact sS; exact dS; exact tS; exact rfl) | ((with_reducible apply own_store HM); exact rfl; exact rfl; (conv => lhs; whnf); exact rfl; exact sS; exact vS; exact sS; (first | (with_reducible exact (agg8).size) | (with_reducible exact (oneU8).size) | (with_reducible exact (oneInt).size)); exact rfl; exact rfl; exact rfl; exact rfl; clear HM; intro w' HM))
                go_roundw
                case rel => exact ⟨t + 1, _, by have := HT.out; omega, rfl, by go_num, Lib.hid (by have := hx.out; omega), HM⟩
                case measure => have := HT.out; simp [intOf]; omega
              · have d1 : ((d : Int) != 0) = true := by simp; omega
                have D0 := Lib.hid d0
                clear d0 h256 h255 a256
                by_cases hf : f a = 0
                · have hu : layU f dd (a : Int) a = 0 := (layU_here f dd a).trans hf
                  obtain ⟨e1, e2⟩ := lay_new f dd a d hda.out D0.out hf
                  have HN : Hid (∀ w', Hid (Own W0 w' ((g2, 70, [.int .u8 (D 0 : Int), .int .u8 (D 1 : Int), .int .u8 (D 2 : Int), .int .u8 (D 3 : Int), .int .u8 (D 4 : Int), .int .u8 (D 5 : Int), .int .u8 (D 6 : Int), .int .u8 (D 7 : Int)]) :: (g, 53, rcells (layU f dd (a : Int)) o (c || layV f dd (a : Int))) :: l)) → Calls Try.prog 51 #[.pointer (some ⟨g, 0, none⟩), .int .i64 (a : Int), .int .u8 (d : Int)] w' fun e w'' => e = .returned (.tuple #[]) ∧ Hid (Own W0 w'' ((g2, 70, [.int .u8 (D 0 : Int), .int .u8 (D 1 : Int), .int .u8 (D 2 : Int), .int .u8 (D 3 : Int), .int .u8 (D 4 : Int), .int .u8 (D 5 : Int), .int .u8 (D 6 : Int), .int .u8 (D 7 : Int)]) :: (g, 53, rcells (layU f dd ((a : Int) + 1)) o (c || layV f dd ((a : Int) + 1))) :: l))) := Lib.hid fun w' HM' => by
                    rw [e1, e2]
                    exact put_new g _ o _ a d A256.out D16.out hu HM'
                  clear e1 e2 hf hu
                  go_wp2_with (first | (go_at_call 51; (with_reducible refine (HN.out _ HM).mono ?_); rintro e w' ⟨rfl, HM'⟩; clear HM; have HM := HM'; clear HM') | ((with_reducible apply own_box HM); exact rfl; (conv => lhs; whnf); exact rfl; exact rfl; (first | (clear tg1 HM; intro w' g1 HM) | (clear tg2 HM; intro w' g2 HM) | (clear tg3 HM; intro w' g3 HM) | (clear tg4 HM; intro w' g4 HM) | (clear HM; intro w' g' HM))) | ((with_reducible apply own_cell HM); exact rfl; exact rfl; (first | (with_reducible exact oneU8) | (with_reducible exact oneInt)); exact sS; exact dS; exact rfl) | ((with_reducible apply own_load HM); exact rfl; exact rfl; (first | (with_reducible exact agg8)); exact sS; exact dS; exact tS; exact rfl) | ((with_reducible apply own_store HM); exact rfl; exact rfl; (conv => lhs; whnf); exact rfl; exact sS; exact vS; exact sS; (first | (with_reducible exact (agg8).size) | (with_reducible exact (oneU8).size) | (with_reducible exact (oneInt).size)); exact rfl; exact rfl; exact rfl; exact rfl; clear HM; intro w' HM))
                  go_roundw
                  case rel => exact ⟨t + 1, _, by have := HT.out; omega, rfl, by go_num, Lib.hid (by have := hx.out; omega), HM⟩
                  case measure => have := HT.out; simp [intOf]; omega
                · have hu : ¬ layU f dd (a : Int) a = 0 := by rw [layU_here]; exact hf
                  obtain ⟨e1, e2⟩ := lay_hit f dd a d A256.out hda.out D0.out hf
                  have HN : Hid (∀ w', Hid (Own W0 w' ((g2, 70, [.int .u8 (D 0 : Int), .int .u8 (D 1 : Int), .int .u8 (D 2 : Int), .int .u8 (D 3 : Int), .int .u8 (D 4 : Int), .int .u8 (D 5 : Int), .int .u8 (D 6 : Int), .int .u8 (D 7 : Int)]) :: (g, 53, rcells (layU f dd (a : Int)) o (c || layV f dd (a : Int))) :: l)) → Calls Try.prog 51 #[.pointer (some ⟨g, 0, none⟩), .int .i64 (a : Int), .int .u8 (d : Int)] w' fun e w'' => e = .returned (.tuple #[]) ∧ Hid (Own W0 w'' ((g2, 70, [.int .u8 (D 0 : Int), .int .u8 (D 1 : Int), .int .u8 (D 2 : Int), .int .u8 (D 3 : Int), .int .u8 (D 4 : Int), .int .u8 (D 5 : Int), .int .u8 (D 6 : Int), .int .u8 (D 7 : Int)]) :: (g, 53, rcells (layU f dd ((a : Int) + 1)) o (c || layV f dd ((a : Int) + 1))) :: l))) := Lib.hid fun w' HM' => by
                    rw [e1, e2, Bool.or_true]
                    exact put_hit g _ o _ a d A256.out hu HM'
                  clear e1 e2 hf hu
                  go_wp2_with (first | (go_at_call 51; (with_reducible refine (HN.out _ HM).mono ?_); rintro e w' ⟨rfl, HM'⟩; clear HM; have HM := HM'; clear HM') | ((with_reducible apply own_box HM); exact rfl; (conv => lhs; whnf); exact rfl; exact rfl; (first | (clear tg1 HM; intro w' g1 HM) | (clear tg2 HM; intro w' g2 HM) | (clear tg3 HM; intro w' g3 HM) | (clear tg4 HM; intro w' g4 HM) | (clear HM; intro w' g' HM))) | ((with_reducible apply own_cell HM); exact rfl; exact rfl; (first | (with_reducible exact oneU8) | (with_reducible exact oneInt)); exact sS; exact dS; exact rfl) | ((with_reducible apply own_load HM); exact rfl; exact rfl; (first | (with_reducible exact agg8)); exact sS; exact dS; exact tS; exact rfl) | ((with_reducible apply own_store HM); exact rfl; exact rfl; (conv => lhs; whnf); exact rfl; exact sS; exact vS; exact sS; (first | (with_reducible exact (agg8).size) | (with_reducible exact (oneU8).size) | (with_reducible exact (oneInt).size)); exact rfl; exact rfl; exact rfl; exact rfl; clear HM; intro w' HM))
                  go_roundw
                  case rel => exact ⟨t + 1, _, by have := HT.out; omega, rfl, by go_num, Lib.hid (by have := hx.out; omega), HM⟩
                  case measure => have := HT.out; simp [intOf]; omega
            · obtain ⟨e1, e2⟩ := lay_skip f dd x (fun b hb => by omega)
              rw [← e1, ← e2] at HM
              clear e1 e2 h256
              have h1 : x < 0 := by omega
              go_wp2_with (first | ((with_reducible apply own_box HM); exact rfl; (conv => lhs; whnf); exact rfl; exact rfl; (first | (clear tg1 HM; intro w' g1 HM) | (clear tg2 HM; intro w' g2 HM) | (clear tg3 HM; intro w' g3 HM) | (clear tg4 HM; intro w' g4 HM) | (clear HM; intro w' g' HM))) | ((with_reducible apply own_cell HM); exact rfl; exact rfl; (first | (with_reducible exact oneU8) | (with_reducible exact oneInt)); exact sS; exact dS; exact rfl) | ((with_reducible apply own_load HM); exact rfl; exact rfl; (first | (with_reducible exact agg8)); exact sS; exact dS; exact tS; exact rfl) | ((with_reducible apply own_store HM); exact rfl; exact rfl; (conv => lhs; whnf); exact rfl; exact sS; exact vS; exact sS; (first | (with_reducible exact (agg8).size) | (with_reducible exact (oneU8).size) | (with_reducible exact (oneInt).size)); exact rfl; exact rfl; exact rfl; exact rfl; clear HM; intro w' HM))
              go_roundw
              case rel => exact ⟨t + 1, _, by have := HT.out; omega, rfl, by go_num, Lib.hid (by have := hx.out; omega), HM⟩
              case measure => have := HT.out; simp [intOf]; omega
        · obtain rfl : t = 2 := by omega
          go_wp2_with (first | ((with_reducible apply own_box HM); exact rfl; (conv => lhs; whnf); exact rfl; exact rfl; (first | (clear tg1 HM; intro w' g1 HM) | (clear tg2 HM; intro w' g2 HM) | (clear tg3 HM; intro w' g3 HM) | (clear tg4 HM; intro w' g4 HM) | (clear HM; intro w' g' HM))) | ((with_reducible apply own_cell HM); exact rfl; exact rfl; (first | (with_reducible exact oneU8) | (with_reducible exact oneInt)); exact sS; exact dS; exact rfl) | ((with_reducible apply own_load HM); exact rfl; exact rfl; (first | (with_reducible exact agg8)); exact sS; exact dS; exact tS; exact rfl) | ((with_reducible apply own_store HM); exact rfl; exact rfl; (conv => lhs; whnf); exact rfl; exact sS; exact vS; exact sS; (first | (with_reducible exact (agg8).size) | (with_reducible exact (oneU8).size) | (with_reducible exact (oneInt).size)); exact rfl; exact rfl; exact rfl; exact rfl; clear HM; intro w' HM))
          go_roundw
          case rel => exact ⟨j + 1, x, by have := HJ.out; omega, rfl, by go_num, Lib.hid (by have := hx.out; omega), HM⟩
          case measure => have := HJ.out; simp [intOf]; omega
    · obtain rfl : j = 8 := by omega
      obtain ⟨e1, e2⟩ := lay_past f dd X x D 2 hdd.out (by have := hx.out; omega)
      rw [e1, e2] at HM
      clear e1 e2
      go_wp2_with (first | ((with_reducible apply own_box HM); exact rfl; (conv => lhs; whnf); exact rfl; exact rfl; (first | (clear tg1 HM; intro w' g1 HM) | (clear tg2 HM; intro w' g2 HM) | (clear tg3 HM; intro w' g3 HM) | (clear tg4 HM; intro w' g4 HM) | (clear HM; intro w' g' HM))) | ((with_reducible apply own_cell HM); exact rfl; exact rfl; (first | (with_reducible exact oneU8) | (with_reducible exact oneInt)); exact sS; exact dS; exact rfl) | ((with_reducible apply own_load HM); exact rfl; exact rfl; (first | (with_reducible exact agg8)); exact sS; exact dS; exact tS; exact rfl) | ((with_reducible apply own_store HM); exact rfl; exact rfl; (conv => lhs; whnf); exact rfl; exact sS; exact vS; exact sS; (first | (with_reducible exact (agg8).size) | (with_reducible exact (oneU8).size) | (with_reducible exact (oneInt).size)); exact rfl; exact rfl; exact rfl; exact rfl; clear HM; intro w' HM))
      (try rw [Exit.noGoto_normal])
      (first
        | go_end0
        | ((try simp only [Exit.inBlock, Exit.then]); refine bodyPost_ret (results_none rfl _ _ _) rfl ?_))
      exact ⟨rfl, Lib.hid HM.out.forget⟩
theorem rheight_at (r0 r1 r2 r3 r4 r5 r6 r7 r8 r9 r10 : Nat) (b1 : r1 < 256) (h : Nat) (hh : Hid (spH r1 = h)) (w : World) :
    Calls Try.prog 41 #[regsV r0 r1 r2 r3 r4 r5 r6 r7 r8 r9 r10] w fun e w' => e = .returned (.int .i64 (h : Int)) ∧ Below w.heap.size w w' := by
  have HM := Lib.hid (Own.start w)
  have tg1 : Hid True := trivial
  obtain ⟨p, hp⟩ : ∃ p : Nat, r1 / 2 = p := ⟨_, rfl⟩
  obtain ⟨q, hq⟩ : ∃ q : Nat, p % 2 = q := ⟨_, rfl⟩
  obtain ⟨s, hs⟩ : ∃ s : Nat, r1 % 2 = s := ⟨_, rfl⟩
  have P1 : (r1 : Int) / 2 = (p : Int) := by omega
  have P2 : (p : Int) % 2 = (q : Int) := by omega
  have P3 : (r1 : Int) % 2 = (s : Int) := by omega
  have P4 : IntKind.u8.wrap (p : Int) = (p : Int) := by rw [IntKind.wrap_u8]; omega
  have q1 : q < 2 := by omega
  have s1 : s < 2 := by omega
  have E : h = 8 * (1 + q) * (1 + s) := by rw [← hh.out]; unfold spH; rw [hp, hq, hs]
  clear hh hp hq hs
  obtain rfl | rfl : q = 0 ∨ q = 1 := by omega
  all_goals obtain rfl | rfl : s = 0 ∨ s = 1 := by omega
  all_goals
    subst E
    go_enter Try.func41, Try.ntmps41
    go_wp2_with (first | ((with_reducible apply own_box HM); exact rfl; (conv => lhs; whnf); exact rfl; exact rfl; (first | (clear tg1 HM; intro w' g1 HM) | (clear tg2 HM; intro w' g2 HM) | (clear tg3 HM; intro w' g3 HM) | (clear tg4 HM; intro w' g4 HM) | (clear HM; intro w' g' HM))) | ((with_reducible apply own_cell HM); exact rfl; exact rfl; (first | (with_reducible exact one8) | (with_reducible exact oneInt)); exact sS; exact dS; exact rfl) | ((with_reducible apply own_load HM); exact rfl; exact rfl; (first | (with_reducible exact agg11)); exact sS; exact dS; exact tS; exact rfl) | ((with_reducible apply own_store HM); exact rfl; exact rfl; (conv => lhs; whnf); exact rfl; exact sS; exact vS; exact sS; (first | (with_reducible exact (agg11).size) | (with_reducible exact (one8).size) | (with_reducible exact (oneInt).size)); exact rfl; exact rfl; exact rfl; exact rfl; clear HM; intro w' HM))
    go_ret
    exact ⟨rfl, Own.fin HM⟩
theorem rbase_at (r0 r1 r2 r3 r4 r5 r6 r7 r8 r9 r10 : Nat) (b5 : r5 < 256) (b : Nat) (hb : Hid (spBase r5 = b)) (w : World) :
    Calls Try.prog 23 #[regsV r0 r1 r2 r3 r4 r5 r6 r7 r8 r9 r10] w fun e w' => e = .returned (.int .i64 (b : Int)) ∧ Below w.heap.size w w' := by
  have HM := Lib.hid (Own.start w)
  have tg1 : Hid True := trivial
  obtain ⟨p, hp⟩ : ∃ p : Nat, r5 / 2 = p := ⟨_, rfl⟩
  obtain ⟨q, hq⟩ : ∃ q : Nat, p % 64 = q := ⟨_, rfl⟩
  obtain ⟨s, hs⟩ : ∃ s : Nat, q * 2 = s := ⟨_, rfl⟩
  have P1 : (r5 : Int) / 2 = (p : Int) := by omega
  have P2 : (p : Int) % 64 = (q : Int) := by omega
  have P3 : (q : Int) * 2 = (s : Int) := by omega
  have P4 : IntKind.u8.wrap (p : Int) = (p : Int) := by rw [IntKind.wrap_u8]; omega
  have s1 : (s : Int) < 128 := by omega
  have q1 : (q : Int) < 64 := by omega
  have E : 128 * (s : Int) = (b : Int) := by have := hb.out; unfold spBase at this; rw [hp, hq, hs] at this; omega
  clear hb hp hq hs
  go_enter Try.func23, Try.ntmps23
  go_wp2_with (first | ((with_reducible apply own_box HM); exact rfl; (conv => lhs; whnf); exact rfl; exact rfl; (first | (clear tg1 HM; intro w' g1 HM) | (clear tg2 HM; intro w' g2 HM) | (clear tg3 HM; intro w' g3 HM) | (clear tg4 HM; intro w' g4 HM) | (clear HM; intro w' g' HM))) | ((with_reducible apply own_cell HM); exact rfl; exact rfl; (first | (with_reducible exact one8) | (with_reducible exact oneInt)); exact sS; exact dS; exact rfl) | ((with_reducible apply own_load HM); exact rfl; exact rfl; (first | (with_reducible exact agg11)); exact sS; exact dS; exact tS; exact rfl) | ((with_reducible apply own_store HM); exact rfl; exact rfl; (conv => lhs; whnf); exact rfl; exact sS; exact vS; exact sS; (first | (with_reducible exact (agg11).size) | (with_reducible exact (one8).size) | (with_reducible exact (oneInt).size)); exact rfl; exact rfl; exact rfl; exact rfl; clear HM; intro w' HM))
  go_ret
  exact ⟨rfl, Own.fin HM⟩
theorem rtop_at (y : Nat) (b : y < 256) (t : Int) (ht : Hid (spTop y = t)) (w : World) :
    Calls Try.prog 40 #[.int .u8 (y : Int)] w fun e w' => e = .returned (.int .i64 t) ∧ w = w' := by
  by_cases h : 240 < y + 1
  · obtain rfl : t = (y : Int) + 1 - 256 := by rw [← ht.out]; unfold spTop; rw [if_pos h]
    have h1 : (240 : Int) < (y : Int) + 1 := by omega
    have b' : (y : Int) < 256 := by omega
    clear ht h
    go_enter Try.func40, Try.ntmps40
    go_wp2
    go_ret
    exact ⟨rfl, rfl⟩
  · obtain rfl : t = (y : Int) + 1 := by rw [← ht.out]; unfold spTop; rw [if_neg h]
    have h1 : ¬ (240 : Int) < (y : Int) + 1 := by omega
    have b' : (y : Int) < 256 := by omega
    clear ht h
    go_enter Try.func40, Try.ntmps40
    go_wp2
    go_ret
    exact ⟨rfl, rfl⟩
end Go.Proofs.Ytijjigacmmhloaa
