/- Contracts: the root; whose child a node is; what stands above it. -/
import Derived.Test.YtdphpjlhkamadaaATreeW
namespace Go.Proofs.Ytdphpjlhkamadaa
open Go.RowKit Go.Shelf
set_option linter.unusedSimpArgs false
set_option linter.unusedVariables false
set_option maxRecDepth 100000
attribute [local go_sem] Oper.semAt_some undef
theorem root_nil (w : World) : Calls Try.prog 26 #[.pointer none] w (fun e w' => e = .returned (.int .u64 0) ∧ Below w.heap.size w w') := by
  go_enter Try.func26, Try.ntmps26
  go_wp2_with fail
  go_ret
  exact ⟨rfl, Below.refl _ _⟩
theorem root_any (w : World) (p : Addr) : Calls Try.prog 26 #[.pointer (some p)] w (fun e w' => e = .returned (.int .u64 1) ∧ Below w.heap.size w w') := by
  go_enter Try.func26, Try.ntmps26
  go_wp2_with fail
  go_ret
  exact ⟨rfl, Below.refl _ _⟩
/-- Where a number stands first. -/
def FirstAt (l : List Nat) (x i : Nat) : Prop := l[i]? = some x ∧ ∀ j < i, l[j]? ≠ some x
set_option maxHeartbeats 1000000 in
theorem index_any (w : World) (n c x : Nat) (A : Option Addr) (l : List Nat) (h : IdSl w w.heap.size (.slice A n c) l) (hx : x < 18446744073709551616) :
    Calls Try.prog 56 #[.slice A n c, .int .u64 (x : Int)] w (fun e w' => ((∃ i : Nat, e = .returned (.int .i64 (i : Int)) ∧ FirstAt l x i) ∨ (e = .returned (.int .i64 (-1)) ∧ x ∉ l)) ∧ Below w.heap.size w w') := by
  obtain ⟨hn, hc⟩ := h.len
  have hlong := h.long
  have HH := Lib.hid h
  have HN := Lib.hid hn
  have hnb : n ≤ 1000000000 := by omega
  clear h hn hlong
  go_enter Try.func56, Try.ntmps56
  go_wp2_with fail
  go_loopw [8] (fun i wr => ∃ k : Nat, k ≤ n ∧ i = .int .i64 (k : Int) ∧ (∀ j < k, l[j]? ≠ some x) ∧ wr = w) (fun i _ => n - (intOf i).toNat)
  case atStart => exact ⟨0, Nat.zero_le _, rfl, fun j hj => absurd hj (by omega), rfl⟩
  case round =>
    obtain ⟨k, hk, rfl, hno, rfl⟩ := hrel
    have HNO := Lib.hid hno
    clear hno
    by_cases hlt : k < n
    · have hltI : (k : Int) < (n : Int) := by omega
      obtain ⟨y, hy⟩ : ∃ y, l[k]? = some y := by rw [HN.out] at hlt; exact ⟨_, List.getElem?_eq_getElem hlt⟩
      obtain ⟨ad, hA, _, hcell⟩ := HH.out.at_ hy
      have HY := Lib.hid hy
      clear hy
      subst hA
      by_cases hxy : x = y
      · subst hxy
        go_wp2_with fail
        go_ret
        exact ⟨.inl ⟨k, rfl, HY.out, HNO.out⟩, Below.refl _ _⟩
      · have hxI : ((x : Int) == (y : Int)) = false := by rw [beq_eq_false_iff_ne]; omega
        have hxJ : ¬ (x : Int) = (y : Int) := by omega
        go_wp2_with fail
        go_roundw
        case rel =>
          refine ⟨k + 1, by omega, rfl, fun j hj e => ?_, by first | rfl | trivial⟩
          by_cases e2 : j = k
          · rw [e2, HY.out] at e; injection e with e; exact hxy e.symm
          · exact HNO.out j (by omega) e
        case measure =>
          simp [intOf]
          omega
    · have hltI : ¬ (k : Int) < (n : Int) := by omega
      have hkn : k = n := by omega
      go_wp2_with fail
      go_ret
      refine ⟨.inr ⟨rfl, fun hm => ?_⟩, Below.refl _ _⟩
      obtain ⟨j, hj, e⟩ := List.getElem_of_mem hm
      exact HNO.out j (by have := HN.out; omega) (by rw [List.getElem?_eq_getElem hj, e])
/-- The least node of which it is a kid. -/
def parentO : List (Nat × Nd) → Nat → Option Nat
  | [], _ => none
  | p :: r, id => if id ∈ p.2.kids then some p.1 else parentO r id
def parentL (ns : List (Nat × Nd)) (id : Nat) : Nat := (parentO ns id).getD 0
theorem parentO_none : ∀ {ns : List (Nat × Nd)} {id : Nat}, parentO ns id = none → ∀ p ∈ ns, id ∉ p.2.kids
  | [], _, _, p, hp => by cases hp
  | q :: r, id, h, p, hp => by
    unfold parentO at h
    split at h
    · cases h
    · rename_i hq
      rcases List.mem_cons.1 hp with rfl | hp
      · exact hq
      · exact parentO_none h p hp
theorem parentO_some : ∀ {ns : List (Nat × Nd)} {id x : Nat}, Rise ns → parentO ns id = some x → ∃ n, (x, n) ∈ ns ∧ id ∈ n.kids ∧ ∀ p ∈ ns, id ∈ p.2.kids → x ≤ p.1
  | [], _, _, _, h => by cases h
  | q :: r, id, x, hr, h => by
    unfold parentO at h
    split at h
    · rename_i hq
      injection h with h
      refine ⟨q.2, by rw [← h]; simp, hq, fun p hp _ => ?_⟩
      rcases List.mem_cons.1 hp with rfl | hp
      · omega
      · have := hr.head p hp; omega
    · rename_i hq
      obtain ⟨n, h1, h2, h3⟩ := parentO_some hr.tail h
      refine ⟨n, by simp [h1], h2, fun p hp hk => ?_⟩
      rcases List.mem_cons.1 hp with rfl | hp
      · exact absurd hk hq
      · exact h3 p hp hk
theorem cntOf_pos {ns : List (Nat × Nd)} (hr : Rise ns) {k i : Nat} : cntOf ns k i ≠ 0 ↔ ∃ n, (i, n) ∈ ns ∧ k ∈ n.kids := by
  unfold cntOf
  constructor
  · intro h
    cases hg : getL ns i with
    | none => rw [hg] at h; exact absurd rfl h
    | some n =>
      rw [hg] at h
      exact ⟨n, getL_mem hg, List.count_pos_iff.1 (by have : n.kids.count k ≠ 0 := h; omega)⟩
  · rintro ⟨n, h1, h2⟩
    rw [getL_of_mem hr h1]
    have := List.count_pos_iff.2 h2
    show n.kids.count k ≠ 0
    omega
theorem firstP_eq {w : World} {base gp N : Nat} {F : PF} {ns : List (Nat × Nd)} (h : ParC w base gp F (cntOf ns) N) (hr : Rise ns) (id : Nat) : firstP (rowP F id) = parentL ns id := by
  have hc := h.cnt id
  have hrow := (h.par.row id).2
  unfold firstP parentL
  congr 1
  revert hc hrow
  generalize rowP F id = l
  intro hc hrow
  have key : ∀ i, (∃ v, getL l i = some v) ↔ ∃ n, (i, n) ∈ ns ∧ id ∈ n.kids := fun i => by
    rw [← cntOf_pos hr, hc i]
    split
    · rename_i e; simp [e]
    · rename_i e; simp [e]
  cases l with
  | nil =>
    cases hp : parentO ns id with
    | none => rfl
    | some x =>
      obtain ⟨n, h1, h2, _⟩ := parentO_some hr hp
      obtain ⟨v, hv⟩ := (key x).2 ⟨n, h1, h2⟩
      cases hv
  | cons p r =>
    obtain ⟨n, h1, h2⟩ := (key p.1).1 ⟨p.2, by unfold getL; rw [if_pos rfl]⟩
    cases hp : parentO ns id with
    | none => exact absurd h2 (parentO_none hp _ h1)
    | some x =>
      obtain ⟨n', h3, h4, h5⟩ := parentO_some hr hp
      have hle := h5 _ h1 h2
      obtain ⟨v, hv⟩ := (key x).2 ⟨n', h3, h4⟩
      have hm := getL_mem hv
      have hge : p.1 ≤ x := by
        rcases List.mem_cons.1 hm with e | hm
        · rw [← e]; exact Nat.le_refl _
        · have := hrow.head _ hm; exact Nat.le_of_lt this
      show some p.1 = some x
      congr 1
      have : x ≤ p.1 := hle
      omega
theorem parentL_small {w : World} {b : Nat} {vs : List (Nat × Value)} {ns : List (Nat × Nd)} (h : MapV w b vs) (hn : NodesV w vs ns) (hr : Rise ns) (id : Nat) : parentL ns id < 18446744073709551616 := by
  unfold parentL
  cases hp : parentO ns id with
  | none => decide
  | some x =>
    obtain ⟨n, h1, _⟩ := parentO_some hr hp
    exact h.small' hn (by show (getL ns x).isSome = true; rw [getL_of_mem hr h1]; rfl)
def ParentR (w : World) (ns : List (Nat × Nd)) (id : Nat) (e : Ending) (w' : World) : Prop :=
  (∃ i : Nat, e = .returned (.tuple #[.int .u64 (parentL ns id : Int), .int .i64 (i : Int)]) ∧ (parentL ns id = 0 → i = 0) ∧ (parentL ns id ≠ 0 → FirstAt (ndOf ns (parentL ns id)).kids id i)) ∧ Below w.heap.size w w'
theorem parent_nil (w : World) (x : Value) : Calls Try.prog 25 #[.pointer none, x] w (fun e w' => e = .returned (.tuple #[.int .u64 0, .int .i64 0]) ∧ Below w.heap.size w w') := by
  go_enter Try.func25, Try.ntmps25
  go_wp2_with fail
  go_ret2
  exact ⟨rfl, Below.refl _ _⟩
set_option maxHeartbeats 1000000 in
theorem parent_any (w : World) (base ga gm gp id N : Nat) (F : PF) (vs : List (Nat × Value)) (ns : List (Nat × Nd)) (h : AR w base ga gm gp F vs ns N) (hid : id < 18446744073709551616) :
    Calls Try.prog 25 #[.pointer (some ⟨ga, 0, none⟩), .int .u64 (id : Int)] w (ParentR w ns id) := by
  have q0 : w.cell? ⟨ga, 1, none⟩ = some (.map (some gp)) := by unfold World.cell?; rw [h.st]; rfl
  have HF := Lib.hid (first_any w base gp id F h.par.par hid)
  have HE := Lib.hid (firstP_eq h.par h.rise id)
  have HSM := Lib.hid (parentL_small h.map h.nodes h.rise id)
  obtain ⟨p, hp⟩ : ∃ p, p = parentL ns id := ⟨_, rfl⟩
  have HP := Lib.hid hp
  have HH := Lib.hid h
  clear h hp
  have hk5 := run_kids
  by_cases h0 : p = 0
  · go_enter Try.func25, Try.ntmps25
    go_wp2_with (go_at_call 55; (with_reducible refine (HF.out).mono ?_); rintro e w1 ⟨rfl, hb1⟩; go_loud (
      rw [HE.out, ← HP.out, h0];
      have HB1 := Lib.hid hb1;
      clear hb1))
    go_ret2
    exact ⟨⟨0, by rw [← HP.out, h0]; rfl, fun _ => rfl, fun hne => absurd (HP.out.symm.trans h0) hne⟩, HB1.out⟩
  · have hpI : ((p : Int) == 0) = false := by rw [beq_eq_false_iff_ne]; omega
    have hpJ : ¬ (p : Int) = 0 := by omega
    obtain ⟨Ao, co, hold, hos, hook, hhas⟩ := HH.out.nodes.get p
    obtain ⟨o, ho⟩ : ∃ o, o = ndOf ns p := ⟨_, rfl⟩
    rw [show (getL ns p).getD zeroNd = o from ho.symm] at hold hos
    have HOLD := Lib.hid hold
    have HOS := Lib.hid hos
    have HO := Lib.hid ho
    clear hold hos hook hhas ho
    go_enter Try.func25, Try.ntmps25
    go_wp2_with (first
      | (go_at_call 55; (with_reducible refine (HF.out).mono ?_); rintro e w1 ⟨rfl, hb1⟩; go_loud (
        rw [HE.out, ← HP.out];
        have q1 : w1.cell? ⟨ga, 0, none⟩ = some (.map (some gm)) := (hb1.cell (p := ⟨ga, 0, none⟩) (lt_of_heap2 HH.out.st)).trans (by unfold World.cell?; rw [HH.out.st]; rfl);
        have l1 := run_look 70 33 Try.underlying70 _ (zeroNode _) (HH.out.below hb1).map p (by rw [HP.out]; exact HSM.out) _ HOLD.out;
        unfold ndV at l1;
        have HIX := Lib.hid (index_any w1 o.kids.length co id Ao o.kids ((HOS.out.below hb1).up hb1.size) hid);
        have HB1 := Lib.hid hb1;
        clear hb1))
      | (go_at_call 56; (with_reducible refine (HIX.out).mono ?_); rintro e w2 ⟨hres, hb2⟩; go_loud (
        obtain ⟨i, rfl, hfi⟩ : ∃ i : Nat, e = .returned (.int .i64 (i : Int)) ∧ FirstAt o.kids id i := by
          rcases hres with h | ⟨_, hni⟩
          · exact h
          · exfalso
            have h1 : parentL ns id ≠ 0 := by rw [← HP.out]; exact h0
            unfold parentL at h1
            cases hpo : parentO ns id with
            | none => rw [hpo] at h1; exact h1 rfl
            | some x =>
              obtain ⟨n', h3, h4, _⟩ := parentO_some HH.out.rise hpo
              have hx : p = x := by rw [HP.out]; unfold parentL; rw [hpo]; rfl
              apply hni
              rw [HO.out, hx]
              unfold ndOf
              rw [getL_of_mem HH.out.rise h3]
              exact h4
        have HFI := Lib.hid hfi
        have HB2 := Lib.hid hb2
        clear hres hfi hb2)))
    go_ret2
    exact ⟨⟨i, by rw [← HP.out]; rfl, fun e => absurd (HP.out.trans e) h0, fun _ => by rw [← HP.out, ← HO.out]; exact HFI.out⟩, HB1.out.trans (HB2.out.mono HB1.out.size)⟩
/-- The nearest one of a kind above, within so many steps. -/
def aboveF (ns : List (Nat × Nd)) (kind : Nat) : Nat → Nat → Nat
  | 0, _ => 0
  | f + 1, id => match getL ns id with
    | none => 0
    | some n => if n.kind = kind then id else aboveF ns kind f (parentL ns id)
theorem aboveF_none {ns : List (Nat × Nd)} {kind f id : Nat} (h : hasL ns id = false) : aboveF ns kind (f + 1) id = 0 := by
  unfold aboveF
  unfold hasL at h
  cases hg : getL ns id with
  | none => rfl
  | some n => rw [hg] at h; cases h
theorem aboveF_some {ns : List (Nat × Nd)} {kind f id : Nat} (h : hasL ns id = true) : aboveF ns kind (f + 1) id = if (ndOf ns id).kind = kind then id else aboveF ns kind f (parentL ns id) := by
  rw [aboveF]
  unfold hasL at h
  unfold ndOf
  cases hg : getL ns id with
  | none => rw [hg] at h; cases h
  | some n => rfl
theorem above_nil (w : World) (x y : Value) : Calls Try.prog 31 #[.pointer none, x, y] w (fun e w' => e = .returned (.int .u64 0) ∧ Below w.heap.size w w') := by
  go_enter Try.func31, Try.ntmps31
  go_wp2_with fail
  go_ret
  exact ⟨rfl, Below.refl _ _⟩
set_option maxHeartbeats 2000000 in
theorem above_any (w : World) (base ga gm gp id kind N : Nat) (F : PF) (vs : List (Nat × Value)) (ns : List (Nat × Nd)) (h : AR w base ga gm gp F vs ns N) (hid : id < 18446744073709551616) (hns : ns.length ≤ 1000000) :
    Calls Try.prog 31 #[.pointer (some ⟨ga, 0, none⟩), .int .u64 (id : Int), .int .u8 (kind : Int)] w (fun e w' => e = .returned (.int .u64 (aboveF ns kind ns.length id : Int)) ∧ Below w.heap.size w w') := by
  have q0 : w.cell? ⟨ga, 0, none⟩ = some (.map (some gm)) := by unfold World.cell?; rw [h.st]; rfl
  have hln := nodes_len h.nodes h.map.rise h.rise
  have q1 := run_count 70 33 Try.underlying70 h.map 3
  rw [hln] at q1
  obtain ⟨M, hM⟩ : ∃ M, M = ns.length := ⟨_, rfl⟩
  rw [← hM] at q1 hns ⊢
  have HH := Lib.hid h
  have HM := Lib.hid hM
  clear h hln hM
  go_enter Try.func31, Try.ntmps31
  go_wp2_with (at_len; go_loud (
      refine wpList_count w rfl _ 70 33 rfl Try.underlying70 gm vs rfl HH.out.map ?_;
      rw [nodes_len HH.out.nodes HH.out.map.rise HH.out.rise, ← HM.out]))
  go_loopw [1, 16] (fun cur i wr => ∃ k x : Nat, k ≤ M ∧ i = .int .i64 (k : Int) ∧ cur = .int .u64 (x : Int) ∧ x < 18446744073709551616 ∧ aboveF ns kind (M - k) x = aboveF ns kind M id ∧ Below w.heap.size w wr) (fun _ i _ => M - (intOf i).toNat)
  case atStart => exact ⟨0, id, Nat.zero_le _, rfl, rfl, hid, rfl, Below.refl _ _⟩
  case round =>
    obtain ⟨k, x, hk, rfl, rfl, hx, hab, hbl⟩ := hrel
    have HAB := Lib.hid hab
    have HBL := Lib.hid hbl
    have q2 : wr.cell? ⟨ga, 0, none⟩ = some (.map (some gm)) := (hbl.cell (p := ⟨ga, 0, none⟩) (lt_of_heap2 HH.out.st)).trans q0
    clear hab hbl
    by_cases hlt : k < M
    · have hltI : (k : Int) < (M : Int) := by omega
      have hstep : M - k = (M - (k + 1)) + 1 := by omega
      have HST := Lib.hid hstep
      clear hstep
      obtain ⟨Ao, co, hold, hos, hook, hhas⟩ := HH.out.nodes.get x
      obtain ⟨o, ho⟩ : ∃ o, o = ndOf ns x := ⟨_, rfl⟩
      rw [show (getL ns x).getD zeroNd = o from ho.symm] at hold
      have HOLD := Lib.hid hold
      have HHAS := Lib.hid hhas
      have HO := Lib.hid ho
      have HF := Lib.hid (fun y (hy : Below w.heap.size w y) => first_any y base gp x F (HH.out.below hy).par.par hx)
      have HE := Lib.hid (firstP_eq HH.out.par HH.out.rise x)
      have HSM := Lib.hid (parentL_small HH.out.map HH.out.nodes HH.out.rise x)
      clear hold hos hook hhas ho
      cases hh : hasL ns x with
      | false =>
        rw [hh] at HHAS
        go_wp2_with (at_lookup; go_loud (
          refine wpList_lookOk _ rfl _ _ 70 33 rfl Try.underlying70 (ndV zeroNd (.slice none 0 0)) (zeroNode _) gm vs rfl (HH.out.below HBL.out).map x hx rfl ?_;
          rw [HHAS.out, HOLD.out];
          unfold ndV))
        go_ret
        have hz : aboveF ns kind M id = 0 := by rw [← HAB.out, HST.out, aboveF_none hh]
        exact ⟨by rw [hz]; rfl, HBL.out.alloc HBL.out.size _⟩
      | true =>
        rw [hh] at HHAS
        by_cases hkd : o.kind = kind
        · subst hkd
          go_wp2_with (at_lookup; go_loud (
            refine wpList_lookOk _ rfl _ _ 70 33 rfl Try.underlying70 (ndV zeroNd (.slice none 0 0)) (zeroNode _) gm vs rfl (HH.out.below HBL.out).map x hx rfl ?_;
            rw [HHAS.out, HOLD.out];
            unfold ndV))
          go_ret
          have hz : aboveF ns o.kind M id = x := by rw [← HAB.out, HST.out, aboveF_some hh, if_pos (by rw [← HO.out])]
          exact ⟨by rw [hz]; rfl, HBL.out.alloc HBL.out.size _⟩
        · have hkI : ((o.kind : Int) == (kind : Int)) = false := by rw [beq_eq_false_iff_ne]; omega
          have hkJ : ¬ (o.kind : Int) = (kind : Int) := by omega
          go_wp2_with (first
            | (at_lookup; go_loud (
              refine wpList_lookOk _ rfl _ _ 70 33 rfl Try.underlying70 (ndV zeroNd (.slice none 0 0)) (zeroNode _) gm vs rfl (HH.out.below HBL.out).map x hx rfl ?_;
              rw [HHAS.out, HOLD.out];
              unfold ndV;
              have hbb := HBL.out.alloc HBL.out.size (.cells #[.int .u8 (o.kind : Int), .string o.name, .int .i64 o.num, .int .u8 (o.typ : Int), .int .u64 (o.ref : Int), .slice Ao o.kids.length co] 33);
              have q3 : (wr.alloc (.cells #[.int .u8 (o.kind : Int), .string o.name, .int .i64 o.num, .int .u8 (o.typ : Int), .int .u64 (o.ref : Int), .slice Ao o.kids.length co] 33)).cell? ⟨ga, 1, none⟩ = some (.map (some gp)) := (hbb.cell (p := ⟨ga, 1, none⟩) (lt_of_heap2 HH.out.st)).trans (by unfold World.cell?; rw [HH.out.st]; rfl);
              have HBB := Lib.hid hbb;
              clear hbb))
            | (go_at_call 55; (with_reducible refine (HF.out _ HBB.out).mono ?_); rintro e w1 ⟨rfl, hb1⟩; go_loud (
              rw [HE.out];
              have HB1 := Lib.hid (HBB.out.trans (hb1.mono HBB.out.size));
              clear hb1)))
          go_roundw
          case rel => exact ⟨k + 1, parentL ns x, by omega, rfl, rfl, HSM.out, by rw [← HAB.out, HST.out, aboveF_some hh, if_neg (by rw [← HO.out]; exact hkd)], HB1.out⟩
          case measure =>
            simp [intOf]
            omega
    · have hltI : ¬ (k : Int) < (M : Int) := by omega
      have hkM : k = M := by omega
      go_wp2_with fail
      go_ret
      have hz : aboveF ns kind M id = 0 := by rw [← HAB.out, hkM, Nat.sub_self]; rfl
      exact ⟨by rw [hz]; rfl, HBL.out⟩
end Go.Proofs.Ytdphpjlhkamadaa
