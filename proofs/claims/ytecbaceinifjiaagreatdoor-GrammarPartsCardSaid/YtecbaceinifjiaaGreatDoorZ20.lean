/- KVal, GOp, GBin: joined by program (tools/merge.py). -/
import Derived.Test.YtecbaceinifjiaaGreatDoorZ19
import Derived.Test.YtecbaceinifjiaaGreatDoorZ16
namespace Go.Proofs.YtecbaceinifjiaaGreatDoor
open Go.RowKit
set_option linter.unusedSimpArgs false
set_option linter.unusedVariables false
theorem box_stays {w w1 : World} {x y z : Value} {t : TypeId} (hb : Below (w.alloc (.cells #[x, y, z] t)).heap.size (w.alloc (.cells #[x, y, z] t)) w1) :
    w1.cell? ⟨w.heap.size, 0, none⟩ = some x ∧ w1.cell? ⟨w.heap.size, 1, none⟩ = some y ∧ w1.cell? ⟨w.heap.size, 2, none⟩ = some z := by
  have hl : w.heap.size < (w.alloc (.cells #[x, y, z] t)).heap.size := by simp
  refine ⟨(hb.cell (p := ⟨w.heap.size, 0, none⟩) hl).trans ?_, (hb.cell (p := ⟨w.heap.size, 1, none⟩) hl).trans ?_, (hb.cell (p := ⟨w.heap.size, 2, none⟩) hl).trans ?_⟩
  · rw [World.cell?_alloc_at _ _ _ _ rfl]; rfl
  · rw [World.cell?_alloc_at _ _ _ _ rfl]; rfl
  · rw [World.cell?_alloc_at _ _ _ _ rfl]; rfl
set_option maxRecDepth 100000 in
set_option maxHeartbeats 1000000 in
theorem value_other (w : World) (k : Nat) (s : ByteArray) (a : Int) (hk : k ≠ 2) :
    Calls Tryz.prog 102 #[.agg #[.int .u8 (k : Int), .string s, .int .i64 a]] w fun e w' => e = .returned (.int .i64 0) ∧ Below w.heap.size w w' := by
  have hx : ((k : Int) == 2) = false := by rw [beq_eq_false_iff_ne]; omega
  have hxn : ((k : Int) != 2) = true := by rw [bne, hx]; rfl
  clear hk
  go_enter Tryz.func102, Tryz.ntmps102
  go_wp2
  go_ret
  exact ⟨rfl, (Below.refl _ _).alloc (Nat.le_refl _) _⟩
set_option maxRecDepth 100000 in
set_option maxHeartbeats 1000000 in
theorem value_num (w : World) (s : ByteArray) (a : Int) (hs : s.size ≤ 140737488355328) (hv : Vr w) (hld : runL (str s) = s.size) (hn : numL (str s) = true) :
    Calls Tryz.prog 102 #[.agg #[.int .u8 2, .string s, .int .i64 a]] w fun e w' => e = .returned (.int .i64 (valL (str s) : Int)) ∧ Below w.heap.size w w' := by
  obtain ⟨hok, hbad⟩ := is_num hld
  have hp : ∃ v, Lib.parseIntB 64 s.data.toList = .ok v := by
    refine Classical.byContradiction fun h => ?_
    rw [hbad fun v hv => h ⟨v, hv⟩] at hn
    cases hn
  obtain ⟨v, hp⟩ := hp
  obtain ⟨_, hval, _, _⟩ := hok v hp
  have hve := hval hn
  have HI := fun (x : World) (hx : Vr x) => hide (isnum_any x s hs hx hld)
  rw [hn] at HI
  have HP := fun (x : World) (hx : Vr x) => hide (parse_good x s v (by omega) hx hp)
  rw [hve] at HP
  have HV := hide hv
  clear hok hbad hp hval hve
  have hba : ∀ o : Obj, Below w.heap.size w (w.alloc o) := fun o => (Below.refl _ _).alloc (Nat.le_refl _) o
  have HBA := hide hba
  clear hba
  go_enter Tryz.func102, Tryz.ntmps102
  go_wp2_with (first
    | (go_at_call 43; (with_reducible refine (unhide (HI _ ((unhide HV).below (unhide HBA _)))).mono ?_); rintro e w1 ⟨rfl, hb⟩; go_loud (
        have HB1 := hide (below_on (unhide HBA _) hb);
        obtain ⟨c0, c1, c2⟩ := box_stays hb;
        clear hb))
    | (go_at_call 63; (with_reducible refine (unhide (HP _ ((unhide HV).below (unhide HB1)))).mono ?_); rintro e w2 ⟨rfl, hb⟩; go_loud (
        have HB2 := hide (below_on (unhide HB1) hb);
        clear hb)))
  go_ret
  exact ⟨rfl, unhide HB2⟩
end Go.Proofs.YtecbaceinifjiaaGreatDoor
namespace Go.Proofs.YtecbaceinifjiaaGreatDoor
open Go.RowKit
set_option linter.unusedSimpArgs false
set_option linter.unusedVariables false
set_option maxRecDepth 100000
theorem sg_byte : ∀ k, k < 13 → ∀ b ∈ sgK k, b < 256 := by decide
theorem opG_word : ∀ j, j < 13 → opG (sgK j) = j + 1 := by decide
theorem opN_miss : ∀ (l : List (List Nat)) (k : Nat) (t : List Nat), (∀ s ∈ l, s ≠ t) → opN l k t = 0
  | [], _, _, _ => rfl
  | s :: r, k, t, h => by
    show (if s = t then k + 1 else opN r (k + 1) t) = 0
    rw [if_neg (h s (by simp)), opN_miss r _ _ fun x hx => h x (by simp [hx])]
theorem opG_miss {l : List Nat} (h : ∀ n, n < 13 → sgK n ≠ l) : opG l = 0 := opN_miss _ _ _ fun s hs => by
  obtain ⟨i, hi, e⟩ := List.mem_iff_getElem.1 hs
  have h1 := h i hi
  unfold sgK at h1
  rw [List.getD_eq_getElem?_getD, List.getElem?_eq_getElem hi, e] at h1
  exact h1
def OpI (s : ByteArray) (i : Value) : Prop := ∃ k : Nat, i = .int .i64 (k : Int) ∧ k ≤ 13 ∧ ∀ n, n < k → sgK n ≠ str s
theorem toL_ne2 {a b : ByteArray} (h : a ≠ b) : (a.toList == b.toList) = false := by
  rw [beq_eq_false_iff_ne]
  intro e
  rw [ba_toList, ba_toList] at e
  refine h (str_inj ?_)
  unfold str
  rw [e]
set_option maxHeartbeats 2000000 in
theorem index_signs (W : World) (j : Nat) (hj : j < 13) : (Instr.index 61 (.agg #[.string (ba (sgK 0)), .string (ba (sgK 1)), .string (ba (sgK 2)), .string (ba (sgK 3)), .string (ba (sgK 4)), .string (ba (sgK 5)), .string (ba (sgK 6)), .string (ba (sgK 7)), .string (ba (sgK 8)), .string (ba (sgK 9)), .string (ba (sgK 10)), .string (ba (sgK 11)), .string (ba (sgK 12))]) (.int .i64 (j : Int))).run Tryz.prog W = .ok (.string (ba (sgK j))) W := by
  have h := Tryz.underlying61
  have c1 : Tryz.prog.cellsOf 9 = 1 := by kernel_rfl
  rcases (show j = 0 ∨ j = 1 ∨ j = 2 ∨ j = 3 ∨ j = 4 ∨ j = 5 ∨ j = 6 ∨ j = 7 ∨ j = 8 ∨ j = 9 ∨ j = 10 ∨ j = 11 ∨ j = 12 by omega) with rfl | rfl | rfl | rfl | rfl | rfl | rfl | rfl | rfl | rfl | rfl | rfl | rfl
  all_goals simp [Instr.index, run_underlying h, asIntOf, go_sem]
set_option maxHeartbeats 2000000 in
theorem op_any (w : World) (s : ByteArray) (hv : Vg w) :
    Calls Tryz.prog 10 #[.string s] w fun e w' => e = .returned (.int .i64 (opG (str s) : Int)) ∧ w' = w := by
  have q0 := hv 0 (by omega)
  have q1 := hv 1 (by omega)
  have q2 := hv 2 (by omega)
  have q3 := hv 3 (by omega)
  have q4 := hv 4 (by omega)
  have q5 := hv 5 (by omega)
  have q6 := hv 6 (by omega)
  have q7 := hv 7 (by omega)
  have q8 := hv 8 (by omega)
  have q9 := hv 9 (by omega)
  have q10 := hv 10 (by omega)
  have q11 := hv 11 (by omega)
  have q12 := hv 12 (by omega)
  go_enter Tryz.func10, Tryz.ntmps10
  go_wp2
  clear q0 q1 q2 q3 q4 q5 q6 q7 q8 q9 q10 q11 q12 hv
  go_loop [6] (fun i => OpI s i) (fun i => 13 - (intOf i).toNat)
  case atStart => exact ⟨0, rfl, by omega, fun n h => by omega⟩
  case round =>
    obtain ⟨j, rfl, hj, hrel⟩ := hrel
    have HREL := Lib.hid hrel
    clear hrel
    by_cases hlt : j < 13
    · have hc : decide ((j : Int) < 13) = true := decide_eq_true (by omega)
      have hidx := fun W => index_signs W j hlt
      by_cases he : ba (sgK j) = s
      · have hq : ((ba (sgK j)).toList == s.toList) = true := by rw [he]; exact beq_self_eq_true _
        have HE := Lib.hid he
        clear he
        go_wp2
        go_ret
        refine ⟨?_, rfl⟩
        rw [← HE.out, str_ba (sg_byte j hlt), opG_word j hlt]
        rfl
      · have hq := toL_ne2 he
        have HE := Lib.hid he
        clear he
        go_wp2
        go_round
        case rel =>
          refine ⟨j + 1, by go_num, by omega, fun n hn e => ?_⟩
          rcases Nat.lt_or_ge n j with h1 | h1
          · exact HREL.out n h1 e
          · obtain rfl : n = j := by omega
            exact HE.out (by rw [e, ba_str])
        case measure => simp [intOf]; omega
    · have hc : decide ((j : Int) < 13) = false := decide_eq_false (by omega)
      go_wp2
      go_ret
      refine ⟨?_, rfl⟩
      rw [opG_miss fun n hn => HREL.out n (by omega)]
      rfl
end Go.Proofs.YtecbaceinifjiaaGreatDoor
namespace Go.Proofs.YtecbaceinifjiaaGreatDoor
open Go.RowKit
set_option linter.unusedSimpArgs false
set_option linter.unusedVariables false
set_option maxRecDepth 100000
attribute [local go_sem] Oper.semAt_some undef
def binO (ex : Nat → PS → PS) (id : Nat) (s0 : PS) : Nat := opG (nextT (ex id s0)).text
def binT (o : Nat) (s1 : PS) : PS := if o = 0 then failS (nextS s1) else nextS s1
def binB (ex : Nat → PS → PS) (id : Nat) (s0 : PS) : PS := wantS c_rpar (ex id (numOf id (binO ex id s0) (binT (binO ex id s0) (ex id s0))))
theorem binS_eq (ex : Nat → PS → PS) (u : Nat) (s : PS) : binS ex u s = nestS (binB ex (growId s)) (growS u (nd0 18) s) := rfl
theorem opN_le : ∀ (l : List (List Nat)) (k : Nat) (t : List Nat), opN l k t ≤ k + l.length
  | [], _, _ => Nat.zero_le _
  | s :: r, k, t => by
    show (if s = t then k + 1 else opN r (k + 1) t) ≤ k + (r.length + 1)
    have := opN_le r (k + 1) t
    split <;> omega
theorem opG_le (t : List Nat) : opG t ≤ 13 := by
  have h := opN_le opsG 0 t
  have : opsG.length = 13 := by decide
  unfold opG
  omega
theorem ok_binT (o : Nat) (s : PS) : Ok s (binT o s) 0 := by
  unfold binT
  split
  · exact (ok_next _).trans (ok_fail _)
  · exact ok_next _
theorem ok_binB {ex : Nat → PS → PS} (hx : ∀ u t, Ok t (ex u t) 0) (id : Nat) (s : PS) : Ok s (binB ex id s) 0 := by
  unfold binB
  exact ((((hx _ _).trans (ok_binT _ _)).trans (ok_num _ _ _)).trans (hx _ _)).trans (ok_want _ _)
/-- A node's number is written: where it lies, and what it leaves. -/
theorem GR.numAt {w : World} {base : Nat} {M : GM} {s : PS} (h : GR w base M s) (id o : Nat) (hid : 0 < id) (hin : id ≤ s.nodes.length) (ho : o ≤ 13) :
    ∃ g c i, id = i + 1 ∧ i < s.nodes.length ∧ M.nv = .slice (some ⟨g, 0, none⟩) s.nodes.length c ∧ (∃ v, w.cell? ⟨g, i * 6 + 2, none⟩ = some (.int .i64 v)) ∧ w.frozen? ⟨g, i * 6 + 2, none⟩ = false ∧ g < w.heap.size ∧ OwnG M g ∧
      GR (w.setCell ⟨g, i * 6 + 2, none⟩ (.int .i64 (o : Int))) base M (numOf id o s) ∧ Touch w (w.setCell ⟨g, i * 6 + 2, none⟩ (.int .i64 (o : Int))) (OwnG M) := by
  obtain ⟨g, c, hnv⟩ := h.nvForm (by omega)
  obtain ⟨i, rfl⟩ : ∃ i, id = i + 1 := ⟨id - 1, by omega⟩
  have hi : i < s.nodes.length := by omega
  obtain ⟨m, hm⟩ : ∃ m, s.nodes[i]? = some m := ⟨_, List.getElem?_eq_getElem hi⟩
  obtain ⟨kv, hkv⟩ : ∃ kv, M.kvs[i]? = some kv := ⟨_, List.getElem?_eq_getElem (by rw [h.nodes.len]; exact hi)⟩
  obtain ⟨hcs, hfz, cs, hgc⟩ := h.ndCells hnv hm hkv
  have hok := h.nodes.ok m (List.mem_of_getElem? hm)
  obtain ⟨h1, h2⟩ := h.setNode (j := 2) (m' := { m with num := (o : Int) }) (x := .int .i64 (o : Int)) hnv hm hkv (by omega) rfl rfl (by
    obtain ⟨⟨a1, a2, a3, a4, a5⟩, a6⟩ := hok
    exact ⟨a1, a2, by show (-9223372036854775808 : Int) ≤ (o : Int) ∧ (o : Int) ≤ 9223372036854775807; omega, a4, a5⟩)
  refine ⟨g, c, i, rfl, hi, hnv, ⟨m.num, by rw [hcs 2 (by omega)]; rfl⟩, hfz _, lt_of_heap2 hgc, .inr (.inl (by rw [hnv]; rfl)), ?_, h2⟩
  have e : numOf (i + 1) o s = { s with nodes := s.nodes.set i { m with num := (o : Int) } } := by
    unfold numOf
    rw [setN_at (i := i) (by omega) hm]
  rw [e]
  exact h1
theorem run_txt (x : World) (k a : Int) (s : ByteArray) : (Instr.field 74 (.agg #[.int .u8 k, .string s, .int .i64 a]) 1).run Tryz.prog x = .ok (.string s) x := by kernel_rfl
set_option maxHeartbeats 16000000 in
theorem bin1_any (w : World) (base : Nat) (M : GM) (s : PS) (h : GR w base M s) (f id g1 g2 : Nat) (hex : ExC f base) (b1 : BoxP w g1 M.gp) (b2 : BoxI w g2 id) (n1 : ¬ OwnG M g1) (n2 : ¬ OwnG M g2) (hid : 0 < id) (hin : id ≤ s.nodes.length) (hl : Live M) (hf : s.left.length < f) :
    PartC 125 #[.pointer (some ⟨g1, 0, none⟩), .pointer (some ⟨g2, 0, none⟩)] w base M (binB (exprS f) id s) := by
  have c1 := b1.cell
  have c2 := b2.cell
  have hE := hex w M s id h hf hid hin hl
  obtain ⟨s1, hs1⟩ : ∃ s1, s1 = exprS f id s := ⟨_, rfl⟩
  have hok1 := ok_expr f id s
  rw [← hs1] at hE hok1
  obtain ⟨t, ht⟩ : ∃ t, t = nextT s1 := ⟨_, rfl⟩
  obtain ⟨tk, tt, ta⟩ := t
  obtain ⟨o, ho⟩ : ∃ o, o = opG tt := ⟨_, rfl⟩
  have hob : o ≤ 13 := by rw [ho]; exact opG_le _
  have hbin : binB (exprS f) id s = wantS c_rpar (exprS f id (numOf id o (binT o s1))) := by unfold binB binO; rw [← hs1, ← ht, ho]
  rw [hbin]
  have HE := Lib.hid hE
  have HB1 := Lib.hid b1
  have HB2 := Lib.hid b2
  have HN1 := Lib.hid n1
  have HN2 := Lib.hid n2
  have HS := Lib.hid hok1
  have HT := Lib.hid ht
  have HO := Lib.hid ho
  have HOB := Lib.hid hob
  have HEX := Lib.hid hex
  have HL := Lib.hid hl
  have HF := Lib.hid hf
  have HIN := Lib.hid hin
  have HID := Lib.hid hid
  have HSZ1 := Lib.hid (lt_of_heap2 b1)
  have HSZ2 := Lib.hid (lt_of_heap2 b2)
  clear h hex b1 b2 n1 n2 hid hin hl hf hE hs1 hok1 ht ho hob hbin
  have hrt := fun x => run_txt x (tk : Int) (ta : Int) (ba tt)
  unfold PartC
  go_enter Tryz.func125, Tryz.ntmps125
  go_upto_region 2 with (first
    | (go_at_call 86; (with_reducible refine (HE.out).mono ?_); rintro e w1 ⟨rfl, M1, hg1, hgp1, hT1, hO1, hl1⟩; go_loud (
        have bx1 := keep_block hT1 HB1.out HN1.out;
        have bx2 := keep_block hT1 HB2.out HN2.out;
        have d1 := BoxP.cell bx1;
        have hnx := next_any w1 base M1 _ hg1;
        rw [← HT.out, hgp1] at hnx;
        unfold tokV at hnx;
        dsimp only at hnx;
        have hgt := hg1.goodN;
        rw [← HT.out] at hgt;
        have HGT := Lib.hid hgt.1;
        have HNX := Lib.hid hnx;
        have HX1 := Lib.hid bx1;
        have HX2 := Lib.hid bx2;
        have HGP1 := Lib.hid hgp1;
        have HT1 := Lib.hid hT1;
        have HO1 := Lib.hid hO1;
        have HL1 := Lib.hid hl1;
        clear bx1 bx2 hnx hgt hg1 hgp1 hT1 hO1 hl1))
    | (go_at_call 67; (with_reducible refine (HNX.out).mono ?_); rintro e w2 ⟨rfl, l2, hg2, hT2⟩; go_loud (
        have hop := op_any w2 (ba tt) hg2.vs.vg;
        rw [str_ba HGT.out, ← HO.out] at hop;
        have HOP := Lib.hid hop;
        have HG2 := Lib.hid hg2;
        have HT2 := Lib.hid hT2;
        clear hop hg2 hT2))
    | (go_at_call 10; (with_reducible refine (HOP.out).mono ?_); rintro e w3 ⟨rfl, rfl⟩))
  obtain ⟨M2, hM2⟩ : ∃ M2 : GM, M2 = { M1 with left := l2 } := ⟨_, rfl⟩
  have hg2 : GR w3 base M2 (nextS s1) := by rw [hM2]; exact HG2.out
  have hgp2 : M2.gp = M.gp := by rw [hM2]; exact HGP1.out
  clear HG2
  have HG2 := Lib.hid hg2
  have HGP2 := Lib.hid hgp2
  have HM2 := Lib.hid hM2
  clear hg2 hgp2 hM2
  have nb1 : g1 ≠ M1.gp := fun e => HN1.out (.inl (e.trans HGP1.out))
  have nb2 : g2 ≠ M1.gp := fun e => HN2.out (.inl (e.trans HGP1.out))
  have bx1 := (HT2.out.block _ (lt_of_heap2 HX1.out) nb1).trans HX1.out
  have bx2 := (HT2.out.block _ (lt_of_heap2 HX2.out) nb2).trans HX2.out
  have d1 := BoxP.cell bx1
  have d2 := BoxI.cell bx2
  have HY1 := Lib.hid bx1
  have HY2 := Lib.hid bx2
  clear bx1 bx2
  have NB1 := Lib.hid nb1
  have NB2 := Lib.hid nb2
  clear nb1 nb2
  by_cases ho0 : o = 0
  · subst ho0
    have hfl := fail_any _ base _ _ HG2.out
    rw [HGP2.out] at hfl
    have HFL := Lib.hid hfl
    clear hfl
    go_upto_region 4 with (go_at_call 66; (with_reducible refine (HFL.out).mono ?_); rintro e w4 ⟨rfl, l4, hg4, hT4⟩; go_loud (
      have HG4 : Hid (GR w4 base { M2 with left := l4 } (binT 0 s1)) := Lib.hid hg4;
      have HT4 : Hid (Touch w3 w4 (Only M2.gp)) := Lib.hid hT4;
      clear hg4 hT4))
    obtain ⟨M4, hM4⟩ : ∃ M4 : GM, M4 = { M2 with left := l4 } := ⟨_, rfl⟩
    have hgp4 : M4.gp = M.gp := by rw [hM4]; exact HGP2.out
    have hg4 : GR w4 base M4 (binT 0 s1) := by rw [hM4]; exact HG4.out
    have hT14 : Touch w1 w4 (Only M1.gp) := HT2.out.trans HT4.out fun j e => .inl (e.trans (HGP2.out.trans HGP1.out.symm))
    have hT04 : Touch w w4 (OwnG M) := HT1.out.trans hT14 fun j e => .inl (.inl (e.trans HGP1.out))
    have hN4 : ∀ j, OwnG M4 j → OwnG M j ∨ w.heap.size ≤ j := fun j hj => by rw [hM4, HM2.out] at hj; exact HO1.out j hj
    have hl4 : Live M4 := by rw [hM4, HM2.out]; exact HL1.out HL.out
    have bx3 := keep_block hT04 HB1.out HN1.out
    have bx4 := keep_block hT04 HB2.out HN2.out
    have hokT := HS.out.trans (ok_binT 0 s1)
    have hinT : id ≤ (binT 0 s1).nodes.length := Nat.le_trans HIN.out hokT.nodes
    obtain ⟨gg, cc, i, hidi, hii, hnv, ⟨vv, hcell⟩, hfrz, hgl, hog, hG5, hT5⟩ := hg4.numAt id 0 HID.out hinT (by have := HOB.out; omega)
    have hnd := node_any w4 base M4 _ hg4 i gg cc hii hnv
    rw [← hidi, hgp4] at hnd
    have hng1 : g1 ≠ gg := fun e => by rcases hN4 gg hog with h9 | h9; exact HN1.out (e ▸ h9); have := HSZ1.out; omega
    have hng2 : g2 ≠ gg := fun e => by rcases hN4 gg hog with h9 | h9; exact HN2.out (e ▸ h9); have := HSZ2.out; omega
    have e1 := BoxP.cell bx3
    have e2 := BoxI.cell bx4
    have HND := Lib.hid hnd
    have HG5 := Lib.hid hG5
    have HT5 := Lib.hid hT5
    have HM4 := Lib.hid hM4
    have HGP4 := Lib.hid hgp4
    have HT04 := Lib.hid hT04
    have HN4 := Lib.hid hN4
    have HL4 := Lib.hid hl4
    have HX3 := Lib.hid bx3
    have HX4 := Lib.hid bx4
    have HOKT := Lib.hid hokT
    have HNG1 := Lib.hid hng1
    have HNG2 := Lib.hid hng2
    clear hM4 hgp4 hg4 hT14 hT04 hN4 hl4 bx3 bx4 hokT hinT hidi hii hnv hgl hog hG5 hT5 hnd hng1 hng2
    go_upto_region 5 with (go_at_call 33; (with_reducible refine (HND.out).mono ?_); rintro e w5 ⟨rfl, rfl⟩)
    obtain ⟨wF, hwF⟩ : ∃ wF, wF = (w4).setCell ⟨gg, i * 6 + 2, none⟩ (.int .i64 (0 : Int)) := ⟨_, rfl⟩
    have hGF : GR wF base M4 (numOf id 0 (binT 0 s1)) := by rw [hwF]; exact HG5.out
    have hTF : Touch w4 wF (OwnG M4) := by rw [hwF]; exact HT5.out
    have bF1 : BoxP wF g1 M.gp := by rw [hwF]; exact (heap_setCell_other _ _ _ _ HNG1.out).trans HX3.out
    have bF2 : BoxI wF g2 id := by rw [hwF]; exact (heap_setCell_other _ _ _ _ HNG2.out).trans HX4.out
    rw [← hwF]
    have z1 := bF1.cell
    have z2 := bF2.cell
    have hokN := HOKT.out.trans (ok_num id 0 (binT 0 s1))
    have hE2 := HEX.out wF M4 _ id hGF (Nat.lt_of_le_of_lt hokN.left HF.out) HID.out (Nat.le_trans HIN.out hokN.nodes) HL4.out
    rw [HGP4.out] at hE2
    have hNF1 : ¬ OwnG M4 g1 := fun e => by rcases HN4.out g1 e with h9 | h9; exact HN1.out h9; have := HSZ1.out; omega
    have HE2 := Lib.hid hE2
    have HGF := Lib.hid hGF
    have HTF := Lib.hid hTF
    have HF1 := Lib.hid bF1
    have HNF1 := Lib.hid hNF1
    clear hwF hGF hTF bF1 bF2 hokN hE2 hNF1 hcell hfrz e1 e2 d1 d2 c1 c2
    go_wp2_with (first
      | (go_at_call 86; (with_reducible refine (HE2.out).mono ?_); rintro e w6 ⟨rfl, M6, hg6, hgp6, hT6, hO6, hl6⟩; go_loud (
          have bx6 := keep_block hT6 HF1.out HNF1.out;
          have y1 := BoxP.cell bx6;
          have hwa := want_any w6 base M6 _ hg6 ⟨#[41]⟩;
          rw [show str ⟨#[41]⟩ = c_rpar from rfl, hgp6, HGP4.out] at hwa;
          have HWA := Lib.hid hwa;
          have HGP6 := Lib.hid hgp6;
          have HT6 := Lib.hid hT6;
          have HO6 := Lib.hid hO6;
          have HL6 := Lib.hid hl6;
          clear bx6 hwa hg6 hgp6 hT6 hO6 hl6))
      | (go_at_call 45; (with_reducible refine (HWA.out).mono ?_); rintro e w7 ⟨rfl, hw7⟩; go_loud (
          have HW7 := Lib.hid hw7;
          clear hw7)))
    go_end0
    refine ⟨rfl, ?_⟩
    have k6 := GStep.trans HGP6.out HT6.out HO6.out HL6.out HW7.out.step
    have k5 := GStep.trans rfl HTF.out (fun j h => .inl h) (fun h => h) k6
    exact GStep.trans HGP4.out HT04.out HN4.out (fun _ => HL4.out) k5
  · have hoI : ¬ (o : Int) = 0 := by omega
    go_upto_region 4 with fail
    have HG4 : Hid (GR w3 base { M2 with left := M2.left } (binT o s1)) := Lib.hid (by unfold binT; rw [if_neg ho0]; exact HG2.out)
    have HT4 : Hid (Touch w3 w3 (Only M2.gp)) := Lib.hid (Touch.refl _ _)
    obtain ⟨M4, hM4⟩ : ∃ M4 : GM, M4 = { M2 with left := M2.left } := ⟨_, rfl⟩
    have hgp4 : M4.gp = M.gp := by rw [hM4]; exact HGP2.out
    have hg4 : GR w3 base M4 (binT o s1) := by rw [hM4]; exact HG4.out
    have hT14 : Touch w1 w3 (Only M1.gp) := HT2.out.trans HT4.out fun j e => .inl (e.trans (HGP2.out.trans HGP1.out.symm))
    have hT04 : Touch w w3 (OwnG M) := HT1.out.trans hT14 fun j e => .inl (.inl (e.trans HGP1.out))
    have hN4 : ∀ j, OwnG M4 j → OwnG M j ∨ w.heap.size ≤ j := fun j hj => by rw [hM4, HM2.out] at hj; exact HO1.out j hj
    have hl4 : Live M4 := by rw [hM4, HM2.out]; exact HL1.out HL.out
    have bx3 := keep_block hT04 HB1.out HN1.out
    have bx4 := keep_block hT04 HB2.out HN2.out
    have hokT := HS.out.trans (ok_binT o s1)
    have hinT : id ≤ (binT o s1).nodes.length := Nat.le_trans HIN.out hokT.nodes
    obtain ⟨gg, cc, i, hidi, hii, hnv, ⟨vv, hcell⟩, hfrz, hgl, hog, hG5, hT5⟩ := hg4.numAt id o HID.out hinT (by have := HOB.out; omega)
    have hnd := node_any w3 base M4 _ hg4 i gg cc hii hnv
    rw [← hidi, hgp4] at hnd
    have hng1 : g1 ≠ gg := fun e => by rcases hN4 gg hog with h9 | h9; exact HN1.out (e ▸ h9); have := HSZ1.out; omega
    have hng2 : g2 ≠ gg := fun e => by rcases hN4 gg hog with h9 | h9; exact HN2.out (e ▸ h9); have := HSZ2.out; omega
    have e1 := BoxP.cell bx3
    have e2 := BoxI.cell bx4
    have HND := Lib.hid hnd
    have HG5 := Lib.hid hG5
    have HT5 := Lib.hid hT5
    have HM4 := Lib.hid hM4
    have HGP4 := Lib.hid hgp4
    have HT04 := Lib.hid hT04
    have HN4 := Lib.hid hN4
    have HL4 := Lib.hid hl4
    have HX3 := Lib.hid bx3
    have HX4 := Lib.hid bx4
    have HOKT := Lib.hid hokT
    have HNG1 := Lib.hid hng1
    have HNG2 := Lib.hid hng2
    clear hM4 hgp4 hg4 hT14 hT04 hN4 hl4 bx3 bx4 hokT hinT hidi hii hnv hgl hog hG5 hT5 hnd hng1 hng2
    go_upto_region 5 with (go_at_call 33; (with_reducible refine (HND.out).mono ?_); rintro e w5 ⟨rfl, rfl⟩)
    obtain ⟨wF, hwF⟩ : ∃ wF, wF = (w3).setCell ⟨gg, i * 6 + 2, none⟩ (.int .i64 (o : Int)) := ⟨_, rfl⟩
    have hGF : GR wF base M4 (numOf id o (binT o s1)) := by rw [hwF]; exact HG5.out
    have hTF : Touch w3 wF (OwnG M4) := by rw [hwF]; exact HT5.out
    have bF1 : BoxP wF g1 M.gp := by rw [hwF]; exact (heap_setCell_other _ _ _ _ HNG1.out).trans HX3.out
    have bF2 : BoxI wF g2 id := by rw [hwF]; exact (heap_setCell_other _ _ _ _ HNG2.out).trans HX4.out
    rw [← hwF]
    have z1 := bF1.cell
    have z2 := bF2.cell
    have hokN := HOKT.out.trans (ok_num id o (binT o s1))
    have hE2 := HEX.out wF M4 _ id hGF (Nat.lt_of_le_of_lt hokN.left HF.out) HID.out (Nat.le_trans HIN.out hokN.nodes) HL4.out
    rw [HGP4.out] at hE2
    have hNF1 : ¬ OwnG M4 g1 := fun e => by rcases HN4.out g1 e with h9 | h9; exact HN1.out h9; have := HSZ1.out; omega
    have HE2 := Lib.hid hE2
    have HGF := Lib.hid hGF
    have HTF := Lib.hid hTF
    have HF1 := Lib.hid bF1
    have HNF1 := Lib.hid hNF1
    clear hwF hGF hTF bF1 bF2 hokN hE2 hNF1 hcell hfrz e1 e2 d1 d2 c1 c2
    go_wp2_with (first
      | (go_at_call 86; (with_reducible refine (HE2.out).mono ?_); rintro e w6 ⟨rfl, M6, hg6, hgp6, hT6, hO6, hl6⟩; go_loud (
          have bx6 := keep_block hT6 HF1.out HNF1.out;
          have y1 := BoxP.cell bx6;
          have hwa := want_any w6 base M6 _ hg6 ⟨#[41]⟩;
          rw [show str ⟨#[41]⟩ = c_rpar from rfl, hgp6, HGP4.out] at hwa;
          have HWA := Lib.hid hwa;
          have HGP6 := Lib.hid hgp6;
          have HT6 := Lib.hid hT6;
          have HO6 := Lib.hid hO6;
          have HL6 := Lib.hid hl6;
          clear bx6 hwa hg6 hgp6 hT6 hO6 hl6))
      | (go_at_call 45; (with_reducible refine (HWA.out).mono ?_); rintro e w7 ⟨rfl, hw7⟩; go_loud (
          have HW7 := Lib.hid hw7;
          clear hw7)))
    go_end0
    refine ⟨rfl, ?_⟩
    have k6 := GStep.trans HGP6.out HT6.out HO6.out HL6.out HW7.out.step
    have k5 := GStep.trans rfl HTF.out (fun j h => .inl h) (fun h => h) k6
    exact GStep.trans HGP4.out HT04.out HN4.out (fun _ => HL4.out) k5
set_option maxHeartbeats 8000000 in
theorem binary_any (w : World) (base : Nat) (M : GM) (s : PS) (h : GR w base M s) (f u : Nat) (hu : u ≤ s.nodes.length) (hl : Live M) (hf : s.left.length < f) (hs : s.left.length * 16 + (s.nodes.length + 1) + s.cnt ≤ 10000000) (hex : ExC f base) :
    Calls Tryz.prog 104 #[.pointer (some ⟨M.gp, 0, none⟩), .int .u64 (u : Int)] w fun e w' => e = .returned (.tuple #[]) ∧ GStep w base M (binS (exprS f) u s) w' := by
  have hmf : ∀ (fn : Fn) (first cap : Array Value) (w : World), (Instr.makeFunc fn first cap).run Tryz.prog w = .ok (.func fn first cap) w := fun _ _ _ _ => rfl
  obtain ⟨W1, hW1⟩ : ∃ W1, W1 = w.alloc (.cells #[.pointer (some ⟨M.gp, 0, none⟩)] 50) := ⟨_, rfl⟩
  have hb1 : Below w.heap.size w W1 := by rw [hW1]; exact (Below.refl _ _).alloc (Nat.le_refl _) _
  have hx1 : BoxP W1 w.heap.size M.gp := by unfold BoxP; rw [hW1]; exact Go.heap_alloc_new _ _
  have hno : ¬ OwnG M w.heap.size := fun e => Nat.lt_irrefl _ (h.own e).2
  have c1 := hx1.cell
  have HG := Lib.hid (grow_any W1 base M s (h.below hb1) u (nd0 18) hu (okNd 18 (by omega)) rfl hs)
  unfold ndV nd0 at HG
  dsimp only at HG
  rw [show ((0 : Nat) : Int) = 0 from rfl, show ((18 : Nat) : Int) = 18 from rfl] at HG
  have HB1 := Lib.hid hb1
  have HX1 := Lib.hid hx1
  have HNO := Lib.hid hno
  have HW1 := Lib.hid hW1
  have HEX := Lib.hid hex
  have HL := Lib.hid hl
  have HF := Lib.hid hf
  have HGN : Hid (w.heap.size ≠ M.gp) := Lib.hid (by have := h.gpL; omega)
  obtain ⟨id, hid⟩ : ∃ id, id = growId s := ⟨_, rfl⟩
  rw [← hid] at HG
  have HID := Lib.hid hid
  clear h hid hu hl hf hs hex hb1 hx1 hno hW1
  go_enter Tryz.func104, Tryz.ntmps104
  go_upto_region 1 with fail
  rw [← HW1.out]
  go_wp2_with (first
    | (go_at_call 30; (with_reducible refine (HG.out).mono ?_); rintro e w2 ⟨rfl, M2, hg2, hgp2, hT2, hO2, hl2⟩; go_loud (
        have hx2 := keep_block hT2 HX1.out HNO.out;
        have hal : Below w2.heap.size w2 (w2.alloc (.cells #[.int .u64 (id : Int)] 30)) := (Below.refl _ _).alloc (Nat.le_refl _) _;
        have hg3 := hg2.below hal;
        have bx1 : BoxP (w2.alloc (.cells #[.int .u64 (id : Int)] 30)) w.heap.size M.gp := (hal.block _ (lt_of_heap2 hx2)).trans hx2;
        have bx2 : BoxI (w2.alloc (.cells #[.int .u64 (id : Int)] 30)) w2.heap.size id := Go.heap_alloc_new _ _;
        have d1 := bx1.cell;
        have hne2 : w2.heap.size ≠ M2.gp := (by have := hg2.gpL; omega);
        have hne1 : w.heap.size ≠ M2.gp := (by rw [hgp2]; exact HGN.out);
        have hgf := grow_facts u (nd0 18) s;
        have hn1 : ¬ OwnG M2 w.heap.size := (fun e => by rcases hO2 _ e with h9 | h9; exact HNO.out h9; have h8 := lt_of_heap2 HX1.out; omega);
        have hn2 : ¬ OwnG M2 w2.heap.size := (fun e => Nat.lt_irrefl _ (hg2.own e).2);
        have hnest := nestBinary_any _ base M2 _ hg3 #[.pointer (some ⟨w.heap.size, 0, none⟩), .pointer (some ⟨w2.heap.size, 0, none⟩)] (binB (exprS f) id)
          (fun _ w4 hg4 hT4 => bin1_any w4 base M2 _ hg4 f id _ _ HEX.out (by rw [hgp2]; exact (hT4.block _ (lt_of_heap2 bx1) hne1).trans bx1) ((hT4.block _ (lt_of_heap2 bx2) hne2).trans bx2) hn1 hn2
            (by rw [HID.out]; exact Nat.succ_pos _) (by show id ≤ (growS u (nd0 18) s).nodes.length; rw [hgf.2.1, HID.out]; exact Nat.le_refl _) (hl2 HL.out) (by show (growS u (nd0 18) s).left.length < f; rw [hgf.1]; exact HF.out))
          ((ok_binB (ok_expr f) id _).depth);
        rw [hgp2] at hnest;
        have HNEST := Lib.hid hnest;
        have HGP2 := Lib.hid hgp2;
        have HT2 := Lib.hid hT2;
        have HO2 := Lib.hid hO2;
        have HL2 := Lib.hid hl2;
        have HAL := Lib.hid hal;
        clear hx2 hal hg3 bx1 bx2 hne1 hne2 hn1 hn2 hgf hnest hg2 hgp2 hT2 hO2 hl2))
    | (go_at_call 119; (with_reducible refine (HNEST.out).mono ?_); rintro e w5 ⟨rfl, hw5⟩; go_loud (
        have HW5 := Lib.hid hw5;
        clear hw5)))
  go_end0
  refine ⟨rfl, ?_⟩
  rw [binS_eq, ← HID.out]
  exact (GStep.trans HGP2.out HT2.out HO2.out HL2.out (GStep.pre HAL.out HW5.out)).pre HB1.out
end Go.Proofs.YtecbaceinifjiaaGreatDoor
