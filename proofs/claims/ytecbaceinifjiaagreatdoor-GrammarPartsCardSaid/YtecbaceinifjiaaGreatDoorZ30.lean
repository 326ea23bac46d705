/- GAwake, KFrame, GFrame: joined by program (tools/merge.py). -/
import Derived.Test.YtecbaceinifjiaaGreatDoorZ29
import Derived.Test.YtecbaceinifjiaaGreatDoorZ7
import Derived.Test.YtecbaceinifjiaaGreatDoorRows
import Derived.Test.YtecbaceinifjiaaGreatDoorZ10
import Derived.LaidMore
import Derived.LaidLaws
import Derived.Stop.LaidErr
import Derived.Stop.Joined
import Derived.Lib.LaidTab
import Derived.OpenShut
import Derived.ProofKit
import Derived.MakeChecks
namespace Go.Proofs.YtecbaceinifjiaaGreatDoor
open Go.RowKit
set_option linter.unusedSimpArgs false
set_option linter.unusedVariables false
set_option maxRecDepth 100000
attribute [local go_sem] Oper.semAt_some undef
/-- What Sign tells. -/
def signG (z : Int) : List Nat := if 1 ≤ z ∧ z ≤ 13 then sgK (z - 1).toNat else []
set_option maxHeartbeats 2000000 in
theorem signg_any (w : World) (z : Int) (hz : -9223372036854775808 ≤ z) (hz2 : z ≤ 9223372036854775807) (hv : Vg w) :
    Calls Tryz.prog 9 #[.int .i64 z] w fun e w' => e = .returned (.string (ba (signG z))) ∧ w' = w := by
  by_cases h : 1 ≤ z ∧ z ≤ 13
  · obtain ⟨h1, h2⟩ := h
    obtain ⟨k, rfl⟩ : ∃ k : Nat, z = (k : Int) + 1 := ⟨(z - 1).toNat, by omega⟩
    have hk : k < 13 := by omega
    have q := hv k hk
    have e : signG ((k : Int) + 1) = sgK k := by unfold signG; rw [if_pos ⟨h1, h2⟩, show ((k : Int) + 1 - 1).toNat = k by omega]
    rw [e]
    have d1 : decide ((k : Int) + 1 < 1) = false := decide_eq_false (by omega)
    have d2 : decide ((13 : Int) < (k : Int) + 1) = false := decide_eq_false (by omega)
    have hkI : (k : Int) < 13 := by omega
    clear hv e
    go_enter Tryz.func9, Tryz.ntmps9
    go_wp2_with fail
    go_ret
    exact ⟨rfl, rfl⟩
  · have e : signG z = [] := by unfold signG; rw [if_neg h]
    rw [e]
    clear hv e
    by_cases h1 : z < 1
    · have d1 : decide (z < 1) = true := decide_eq_true h1
      go_enter Tryz.func9, Tryz.ntmps9
      go_wp2_with fail
      go_ret
      exact ⟨rfl, rfl⟩
    · have d1 : decide (z < 1) = false := decide_eq_false h1
      have h2 : 13 < z := by omega
      have d2 : decide (13 < z) = true := decide_eq_true h2
      go_enter Tryz.func9, Tryz.ntmps9
      go_wp2_with fail
      go_ret
      exact ⟨rfl, rfl⟩
set_option maxHeartbeats 2000000 in
theorem least_any (w : World) (k : Nat) (hk : k < 18446744073709551616) :
    Calls Tryz.prog 12 #[.int .u64 (k : Int)] w fun e w' => e = .returned (.int .u64 ((max k 1 : Nat) : Int)) ∧ w' = w := by
  have hm : ∀ W, (Builtin.max_ #[30, 30] 30 #[.int .u64 (k : Int), .int .u64 1]).run Tryz.prog W = .ok (.int .u64 ((max k 1 : Nat) : Int)) W := fun W => by
    rcases Nat.eq_zero_or_pos k with h | h
    · subst h; rfl
    · rw [show max k 1 = k by omega]
      have h1 : ¬ (k : Int) < 1 := by omega
      simp [Builtin.max_, Builtin.max2, go_sem, h1]
      try omega
  go_enter Tryz.func12, Tryz.ntmps12
  go_wp2_with fail
  go_ret
  exact ⟨rfl, rfl⟩
/-- The reference's row of signs. -/
def OpsR (w : World) (e : Ending) (w' : World) : Prop :=
  ∃ g, e = .returned (.slice (some ⟨g, 0, none⟩) 13 13) ∧ (∀ k, k < 13 → w'.cell? ⟨g, k, none⟩ = some (.string (ba (sgK k)))) ∧ g < w'.heap.size ∧ Below w.heap.size w w'
set_option maxHeartbeats 2000000 in
theorem rops_any (w : World) : Calls Tryz.prog 8 #[] w (OpsR w) := by
  go_enter Tryz.func8, Tryz.ntmps8
  go_wp2_with fail
  go_ret
  refine ⟨_, rfl, fun k hk => ?_, by simp, (Below.refl _ _).alloc (Nat.le_refl _) _⟩
  unfold World.cell?
  rw [Go.heap_alloc_new]
  rcases (show k = 0 ∨ k = 1 ∨ k = 2 ∨ k = 3 ∨ k = 4 ∨ k = 5 ∨ k = 6 ∨ k = 7 ∨ k = 8 ∨ k = 9 ∨ k = 10 ∨ k = 11 ∨ k = 12 by omega) with rfl | rfl | rfl | rfl | rfl | rfl | rfl | rfl | rfl | rfl | rfl | rfl | rfl
  all_goals rfl
set_option maxHeartbeats 2000000 in
theorem rop_any (w : World) (s : ByteArray) :
    Calls Tryz.prog 11 #[.string s] w fun e w' => e = .returned (.int .i64 (opG (str s) : Int)) ∧ Below w.heap.size w w' := by
  have HO := Lib.hid (rops_any w)
  go_enter Tryz.func11, Tryz.ntmps11
  go_wp2_with (go_at_call 8; (with_reducible refine (HO.out).mono ?_); rintro e w1 ⟨g, rfl, hc, hg, hb⟩; go_loud (
    have HC := Lib.hid hc;
    have HB := Lib.hid hb;
    clear hc hg hb))
  go_loop [7] (fun i => OpI s i) (fun i => 13 - (intOf i).toNat)
  case atStart => exact ⟨0, rfl, by omega, fun n h => by omega⟩
  case round =>
    obtain ⟨j, rfl, hj, hrel⟩ := hrel
    have HREL := Lib.hid hrel
    clear hrel
    by_cases hlt : j < 13
    · have hc : decide ((j : Int) < 13) = true := decide_eq_true (by omega)
      have hcI : (j : Int) < 13 := by omega
      have q := HC.out j hlt
      by_cases he : ba (sgK j) = s
      · have hq : ((ba (sgK j)).toList == s.toList) = true := by rw [he]; exact beq_self_eq_true _
        have HE := Lib.hid he
        clear he
        go_wp2_with fail
        go_ret
        refine ⟨?_, HB.out⟩
        rw [← HE.out, str_ba (sg_byte j hlt), opG_word j hlt]
        rfl
      · have hq := toL_ne2 he
        have HE := Lib.hid he
        clear he
        go_wp2_with fail
        go_round
        case rel =>
          refine ⟨j + 1, by go_num, by omega, fun n hn e => ?_⟩
          rcases Nat.lt_or_ge n j with h1 | h1
          · exact HREL.out n h1 e
          · obtain rfl : n = j := by omega
            exact HE.out (by rw [e, ba_str])
        case measure => simp [intOf]; omega
    · have hc : decide ((j : Int) < 13) = false := decide_eq_false (by omega)
      have hcI : ¬ (j : Int) < 13 := by omega
      go_wp2_with fail
      go_ret
      refine ⟨?_, HB.out⟩
      rw [opG_miss fun n hn => HREL.out n (by omega)]
      rfl
/-- The document's example, as the law writes it. -/
def exG : ByteArray := ⟨#[109, 111, 100, 117, 108, 101, 32, 109, 32, 123, 32, 102, 117, 110, 99, 32, 102, 40, 97, 32, 105, 110, 116, 41, 32, 105, 110, 116, 32, 123, 32, 114, 101, 116, 117, 114, 110, 32, 40, 97, 32, 43, 32, 49, 41, 59, 32, 125, 32, 125]⟩
theorem ex_facts : (parseG (str exG)).1 = 0 ∧ (parseG (str exG)).2.length = 9 ∧ (hasL (parseG (str exG)).2 8) = true ∧ ((getL (parseG (str exG)).2 8).getD zeroNd).kind = 15 := by decide +kernel
set_option maxHeartbeats 4000000 in
theorem gawake (w : World) (hv : Vs w) (gb : GB w.heap.size) : Calls Tryz.prog 6 #[] w fun e w' => e = .returned (.bool true) ∧ Below w.heap.size w w' := by
  have hp := gparse_any w exG (by decide) hv gb
  obtain ⟨r, hr⟩ : ∃ r, r = parseG (str exG) := ⟨_, rfl⟩
  have hf := ex_facts
  rw [← hr] at hp hf
  unfold exG at hp
  have HP := Lib.hid hp
  have HF := Lib.hid hf
  have HV := Lib.hid hv
  have HGB := Lib.hid gb
  clear hp hr hf hv gb
  go_enter Tryz.func6, Tryz.ntmps6
  go_wp2_with (first
    | (go_at_call 7; (with_reducible refine (HP.out).mono ?_); rintro e w1 ⟨h1, _, hb1⟩; go_loud (
        obtain ⟨b0, ga, gm, gp, F, vs, N, _, rfl, hA, _⟩ := h1 HF.out.1;
        have hge := get_any w1 b0 ga gm gp 8 N F vs _ hA (by decide);
        rw [HF.out.2.2.1, show ((8 : Nat) : Int) = 8 from rfl] at hge;
        have HGE := Lib.hid hge;
        have HA := Lib.hid hA;
        have HB1 := Lib.hid hb1;
        clear h1 hge hA hb1))
    | (go_at_call 17; (with_reducible refine (HGE.out).mono ?_); rintro e w2 ⟨A, c, rfl, hnv, _, hb2⟩; go_loud (
        have hk := HF.out.2.2.2;
        obtain ⟨nd, hnd⟩ : ∃ nd, nd = (getL r.2 8).getD zeroNd := ⟨_, rfl⟩;
        rw [← hnd] at hk ⊢;
        obtain ⟨k0, k1, k2, k3, k4, k5⟩ := nd;
        unfold ndV;
        dsimp only at hk ⊢;
        subst hk;
        rw [show ((15 : Nat) : Int) = 15 from rfl];
        have hbx : Below w2.heap.size w2 (w2.alloc (.cells #[.int .u8 15, .string k1, .int .i64 k2, .int .u8 (k3 : Int), .int .u64 (k4 : Int), .slice A k5.length c] 44)) := (Below.refl _ _).alloc (Nat.le_refl _) _;
        have hln := len_any _ b0 ga gm gp N F vs _ ((HA.out.below hb2).below hbx);
        rw [HF.out.2.1, show ((9 : Nat) : Int) = 9 from rfl] at hln;
        have HLN := Lib.hid hln;
        have hx := Go.heap_alloc_new w2 (.cells #[.int .u8 15, .string k1, .int .i64 k2, .int .u8 (k3 : Int), .int .u64 (k4 : Int), .slice A k5.length c] 44);
        have HC0 : Hid ((w2.alloc (.cells #[.int .u8 15, .string k1, .int .i64 k2, .int .u8 (k3 : Int), .int .u64 (k4 : Int), .slice A k5.length c] 44)).cell? ⟨w2.heap.size, 0, none⟩ = some (.int .u8 15)) := Lib.hid (by unfold World.cell?; rw [hx]; rfl);
        have HZ0 := Lib.hid (lt_of_heap2 hx);
        clear hx;
        have HB2 := Lib.hid ((HB1.out.trans (hb2.mono HB1.out.size)).trans (hbx.mono (Nat.le_trans HB1.out.size hb2.size)));
        clear hnd hnv hb2 hbx hln))
    | (go_at_call 15; (with_reducible refine (HLN.out).mono ?_); rintro e w3 ⟨rfl, hb3⟩; go_loud (
        have hbb := HB2.out.trans (hb3.mono HB2.out.size);
        have c0 := (hb3.cell (p := ⟨w2.heap.size, 0, none⟩) HZ0.out).trans HC0.out;
        have hsg := signg_any w3 12 (by decide) (by decide) (HV.out.on hbb HGB.out).vg;
        have HSG := Lib.hid hsg;
        have HB3 := Lib.hid hbb;
        clear hb3 hbb hsg))
    | (go_at_call 9; (with_reducible refine (HSG.out).mono ?_); rintro e w4 ⟨rfl, hw4⟩; go_loud (
        rw [show ba (signG 12) = ⟨#[38, 38]⟩ from rfl];
        obtain rfl : w3 = w4 := hw4.symm;
        clear hw4)))
  go_ret
  exact ⟨rfl, HB3.out⟩
end Go.Proofs.YtecbaceinifjiaaGreatDoor
namespace Go.Proofs.YtecbaceinifjiaaGreatDoor
open Go.RowKit
set_option linter.unusedVariables false
theorem gSyn : Tryz.prog.globalNamed "strconv.ErrSyntax" = some 2 := by kernel_rfl
theorem tSyn : (Tryz.prog.globals[2]?).map (·.type) = some 99 := by kernel_rfl
theorem gRng : Tryz.prog.globalNamed "strconv.ErrRange" = some 3 := by kernel_rfl
theorem tRng : (Tryz.prog.globals[3]?).map (·.type) = some 99 := by kernel_rfl
theorem gPow : Tryz.prog.globalNamed "internal/strconv.uint64pow10" = some 4 := by kernel_rfl
theorem tPow : (Tryz.prog.globals[4]?).map (·.type) = some 147 := by kernel_rfl
theorem starE : "*" ++ "errors.errorString" = "*errors.errorString" := by decide
theorem rowErr (u : TypeId) (h : Tryz.prog.typeName? 3 u = some "*errors.errorString") : u = 154 :=
  typeName_ptr_named (nm := "errors.errorString") (by rw [starE]; kernel_rfl) (by kernel_rfl) (by decide) u (by rw [starE]; exact h)
theorem cellsErr : Tryz.prog.cellsOf 156 = 1 := by kernel_rfl
theorem cellsStr : Tryz.prog.cellsOf 9 = 1 := by kernel_rfl
/-- What the rows of this seat list. -/
def laid5 : List (String × DataW Unit) := [("math/bits.deBruijn32tab", Rows.laid_math_bits_deBruijn32tab), ("math/bits.deBruijn64tab", Rows.laid_math_bits_deBruijn64tab), ("internal/strconv.uint64pow10", Rows.laid_internal_strconv_uint64pow10), ("strconv.ErrRange", Rows.laid_strconv_ErrRange), ("strconv.ErrSyntax", Rows.laid_strconv_ErrSyntax)]
theorem of_laid {W : World} (h : laidMetH Tryz.prog laid5 W) : Vr W := by
  rw [MakeChecks.laidMetH_plain _ _ _ (by kernel_rfl)] at h
  have h3 := laidMet.tail (laidMet.tail h)
  have h4 := laidMet.tail h3
  have h5 := laidMet.tail h4
  obtain ⟨a0, s0, hv0, -, -, -⟩ := laid_sentinel h5 gSyn tSyn Tryz.underlying99 rowErr Tryz.underlying154 Tryz.underlying156 rfl rfl Tryz.underlying9 cellsErr cellsStr
  obtain ⟨a1, s1, hv1, -, -, -⟩ := laid_sentinel h4 gRng tRng Tryz.underlying99 rowErr Tryz.underlying154 Tryz.underlying156 rfl rfl Tryz.underlying9 cellsErr cellsStr
  exact ⟨⟨_, _, hv0⟩, ⟨_, _, hv1⟩, Lib.tabIs_of_head gPow tPow Tryz.underlying147 Tryz.underlying29 (by kernel_rfl) (by kernel_rfl) h3⟩
set_option maxRecDepth 100000 in
/-- The door's own heap meets the condition. -/
theorem door_met (os : Os) (args : Array Value) : laidMetH Tryz.prog laid5 ((World.doorLaid Tryz.prog 62 os).forCall (fun _ _ => 0) ⟨#[], args, []⟩).memory :=
  laidMetH_of_parts3 (fuel := 8) (laidMet_of_run' 8 (by kernel_rfl) (by kernel_rfl)) (by kernel_rfl) (by kernel_rfl)
end Go.Proofs.YtecbaceinifjiaaGreatDoor
namespace Go.Proofs.YtecbaceinifjiaaGreatDoor
open Go.RowKit
set_option linter.unusedVariables false
/-- An array of texts that reads as the listed one holds it. -/
theorem cells_of_strs {H : Type} {enc : TypeId × Value → H} {P : Program} {w : World} {base : Nat} {sp : Nat → Bool} {held : Bool} {fuel : Nat} {t e : TypeId} {n : Nat} {cs : List Value} {ls : List (List UInt8)} {p : List MemPlace}
    (ht : P.underlying t = some (.array n e)) (he : P.underlying e = some .string) (hce : P.cellsOf e = 1) (hct : P.cellsOf t = n)
    (h : DataW.trod enc P w base sp held fuel t cs = some (.agg (ls.map fun l => (DataW.lit (Lit.string l) : DataW H)), p)) : ∀ (i : Nat) (l : List UInt8), ls[i]? = some l → cs[i]? = some (Value.string ⟨l.toArray⟩) := by
  cases fuel with
  | zero => simp [DataW.trod] at h
  | succ fuel =>
    simp only [DataW.trod, ht, hce, hct, Nat.mul_one] at h
    split at h
    · rename_i hl
      obtain ⟨xs, hm, hx⟩ := Option.map_eq_some_iff.1 h
      have hxs : xs.map (·.1) = ls.map fun l => (DataW.lit (.string l) : DataW H) := by
        have := congrArg Prod.fst hx
        simpa using this
      have hxl : xs.length = n := by simpa using Lib.mapM_length hm
      have hzl : ls.length = n := by
        have := congrArg List.length hxs
        simp at this
        omega
      intro i l hil
      have hi : i < n := by
        rw [← hzl]
        rcases Nat.lt_or_ge i ls.length with h1 | h1
        · exact h1
        · rw [List.getElem?_eq_none h1] at hil; cases hil
      obtain ⟨b, hb, hf⟩ := Lib.mapM_at hm i i (by simp [hi])
      obtain ⟨s, hc, hy, _⟩ := DataW.trod_string he hf
      have h1 : cs[i]? = some (.string s) := by
        have := congrArg (·[0]?) hc
        simpa [List.getElem?_take, List.getElem?_drop] using this
      have h2 : (xs.map (·.1))[i]? = some (DataW.lit (.string s.data.toList) : DataW H) := by simp [hb, hy]
      rw [hxs] at h2
      simp only [List.getElem?_map, hil, Option.map_some, Option.some.injEq, DataW.lit.injEq, Lit.string.injEq] at h2
      rw [h1, h2]
    · cases h
theorem gSgn : Tryz.prog.globalNamed "hourglass/grammar.signs" = some 0 := by kernel_rfl
theorem tSgn : (Tryz.prog.globals[0]?).map (·.type) = some 61 := by kernel_rfl
def sgU (k : Nat) : List UInt8 := (sgK k).map UInt8.ofNat
theorem signs_of_head {W : World} {rest : List (String × DataW Unit)} (h : laidMet Tryz.prog (("hourglass/grammar.signs", Rows.laid_hourglass_grammar_signs) :: rest) W) : Vg W := by
  obtain ⟨ps, ⟨g, t, cs, fuel, p, q, hg, ht, hvar, hd, _, _⟩, _⟩ := h
  obtain rfl := Option.some.inj (gSgn.symm.trans hg)
  obtain rfl := Option.some.inj (tSgn.symm.trans ht)
  have hcs := cells_of_strs (ls := (List.range 13).map sgU) Tryz.underlying61 Tryz.underlying9 (by kernel_rfl) (by kernel_rfl) hd
  intro k hk
  have h1 : cs.toList[k]? = some (Value.string (ba (sgK k))) := hcs k (sgU k) (by rw [List.getElem?_map, List.getElem?_range hk]; rfl)
  unfold World.var? at hvar
  rw [gSgn] at hvar
  simp only [Option.bind_some] at hvar
  split at hvar
  · rename_i cs' t' z' hb
    obtain rfl := Option.some.inj hvar
    simp only [World.cell?, hb]
    simpa using h1
  · cases hvar
theorem var_size {w : World} {n : String} {cs : Array Value} {g : Nat} (hg : Tryz.prog.globalNamed n = some g) (h : w.var? Tryz.prog n = some cs) : g < w.heap.size := by
  unfold World.var? at h
  rw [hg] at h
  simp only [Option.bind_some] at h
  split at h
  · rename_i cs' t' z' hb
    exact (Array.getElem?_eq_some_iff.1 hb).1
  · cases h
theorem Vs.gb {w : World} (h : Vs w) : GB w.heap.size := by
  obtain ⟨⟨⟨t1, p1, h1⟩, ⟨t2, p2, h2⟩, h3⟩, h4⟩ := h
  exact ⟨var_size gSyn h1, var_size gRng h2, var_size gPow h3, World.block_lt_of_cell? _ _ (h4 0 (by omega))⟩
/-- What the rows of this seat list. -/
def laid6 : List (String × DataW Unit) := [("math/bits.deBruijn32tab", Rows.laid_math_bits_deBruijn32tab), ("math/bits.deBruijn64tab", Rows.laid_math_bits_deBruijn64tab), ("internal/strconv.uint64pow10", Rows.laid_internal_strconv_uint64pow10), ("strconv.ErrRange", Rows.laid_strconv_ErrRange), ("strconv.ErrSyntax", Rows.laid_strconv_ErrSyntax), ("hourglass/grammar.signs", Rows.laid_hourglass_grammar_signs)]
theorem of_laid6 {W : World} (h : laidMetH Tryz.prog laid6 W) : Vs W := by
  rw [MakeChecks.laidMetH_plain _ _ _ (by kernel_rfl)] at h
  have h3 := laidMet.tail (laidMet.tail h)
  have h4 := laidMet.tail h3
  have h5 := laidMet.tail h4
  have h6 := laidMet.tail h5
  obtain ⟨a0, s0, hv0, -, -, -⟩ := laid_sentinel h5 gSyn tSyn Tryz.underlying99 rowErr Tryz.underlying154 Tryz.underlying156 rfl rfl Tryz.underlying9 cellsErr cellsStr
  obtain ⟨a1, s1, hv1, -, -, -⟩ := laid_sentinel h4 gRng tRng Tryz.underlying99 rowErr Tryz.underlying154 Tryz.underlying156 rfl rfl Tryz.underlying9 cellsErr cellsStr
  exact ⟨⟨⟨_, _, hv0⟩, ⟨_, _, hv1⟩, Lib.tabIs_of_head gPow tPow Tryz.underlying147 Tryz.underlying29 (by kernel_rfl) (by kernel_rfl) h3⟩, signs_of_head h6⟩
set_option maxRecDepth 100000 in
/-- The door's own heap meets the condition. -/
theorem door_met6 (os : Os) (args : Array Value) : laidMetH Tryz.prog laid6 ((World.doorLaid Tryz.prog 67 os).forCall (fun _ _ => 0) ⟨#[], args, []⟩).memory :=
  laidMetH_of_parts3 (fuel := 8) (laidMet_of_run' 8 (by kernel_rfl) (by kernel_rfl)) (by kernel_rfl) (by kernel_rfl)
end Go.Proofs.YtecbaceinifjiaaGreatDoor
