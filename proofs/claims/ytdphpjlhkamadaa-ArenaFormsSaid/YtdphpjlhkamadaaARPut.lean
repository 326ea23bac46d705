/- Contracts: the reference's Put. -/
import Derived.Test.YtdphpjlhkamadaaZ22
namespace Go.Proofs.Ytdphpjlhkamadaa
open Go.RowKit Go.Shelf
set_option linter.unusedSimpArgs false
set_option linter.unusedVariables false
set_option maxRecDepth 100000
attribute [local go_sem] Oper.semAt_some undef
theorem grown_other {w w' : World} {base n size : Nat} {tp : TypeId} {v : Value} {xs : List Value} (hg : w.grownBy w' v.ownBlock) (ho : w.ownsRow base tp size v n xs) {k : Nat} {cs : Array Value} {t : TypeId} {z : Nat × Nat} (h : w.heap[k]? = some (.cells cs t z)) (ht : t ≠ tp) : w'.heap[k]? = w.heap[k]? :=
  hg.block k (lt_of_heap2 h) (fun e => by
    rcases ho.2 with ⟨hv, _⟩ | ⟨g, cap, cur, hv, _, h2, _⟩
    · rw [hv] at e; cases e
    · rw [hv] at e
      have e2 : g = k := (Option.some.inj e.symm)
      rw [e2, h] at h2
      injection h2 with h2
      injection h2 with _ h3 _
      exact ht h3)
theorem XR.more {y w' : World} {base id : Nat} {v v' val : Value} {nd : Nd} {out : XL} (h : XR y base v out) (hg : y.grownBy w' v.ownBlock) (ho : w'.ownsRow base 69 7 v' (out.length + 1) (xCells out ++ (.int .u64 (id : Int) :: ndCells val))) (hn : NodeV y val nd) (hid : id < 18446744073709551616) : XR w' base v' (out ++ [(id, (val, nd))]) := by
  have hk : ∀ (j : Nat) (cs : Array Value) (z : Nat × Nat), y.heap[j]? = some (.cells cs 24 z) → w'.heap[j]? = y.heap[j]? := fun j cs z hj => grown_other hg h.own hj (by decide)
  refine ⟨by rw [List.length_append, xCells_snoc]; exact ho, fun p hp => ?_, fun p hp => ?_⟩
  · rcases List.mem_append.1 hp with hp | hp
    · exact (h.node p hp).keep hg.size hk
    · rw [List.mem_singleton] at hp; rw [hp]; exact hn.keep hg.size hk
  · rcases List.mem_append.1 hp with hp | hp
    · exact h.small p hp
    · rw [List.mem_singleton] at hp; rw [hp]; exact hid
theorem XR.lower {w : World} {base base' : Nat} {v : Value} {xs : XL} (h : XR w base v xs) (hb : base' ≤ base) : XR w base' v xs := by
  refine ⟨⟨h.own.1, ?_⟩, h.node, h.small⟩
  rcases h.own.2 with e | ⟨g, cap, cur, e, h1, h2, h3⟩
  · exact .inl e
  · exact .inr ⟨g, cap, cur, e, Nat.le_trans hb h1, h2, h3⟩
theorem row_lie (w5 : World) {cs : List Value} (j : Nat) (u : Value) (hj : cs[j]? = some u) : (w5.alloc (.cells cs.toArray 69)).cell? ((⟨w5.heap.size, 0, none⟩ : Addr).add j) = some u := by
  have ha : (⟨w5.heap.size, 0, none⟩ : Addr).add j = ⟨w5.heap.size, j, none⟩ := by
    unfold Addr.add
    split <;> simp_all
  rw [ha]
  unfold World.cell?
  dsimp only
  rw [Go.heap_alloc_new]
  show cs.toArray[j]? = some u
  simpa using hj
theorem box7 {w : World} {g : Nat} {x : Int} {n : Nd} {kv : Value} {t : TypeId} (h : w.heap[g]? = some (.cells #[.int .u64 x, .int .u8 (n.kind : Int), .string n.name, .int .i64 n.num, .int .u8 (n.typ : Int), .int .u64 (n.ref : Int), kv] t (0, 0))) :
    w.cell? ⟨g, 0, none⟩ = some (.int .u64 x) ∧ w.cell? ⟨g, 1, none⟩ = some (.int .u8 (n.kind : Int)) ∧ w.cell? ⟨g, 2, none⟩ = some (.string n.name) ∧ w.cell? ⟨g, 3, none⟩ = some (.int .i64 n.num) ∧ w.cell? ⟨g, 4, none⟩ = some (.int .u8 (n.typ : Int)) ∧ w.cell? ⟨g, 5, none⟩ = some (.int .u64 (n.ref : Int)) ∧ w.cell? ⟨g, 6, none⟩ = some kv := by
  unfold World.cell?; rw [h]; exact ⟨rfl, rfl, rfl, rfl, rfl, rfl, rfl⟩
def RPutR (w : World) (xs' : XL) (e : Ending) (w' : World) : Prop := ∃ v, e = .returned v ∧ XR w' w.heap.size v xs' ∧ Below w.heap.size w w'
/-- What Put keeps at the head of its loop. -/
def PutI (w W1 : World) (id N : Nat) (xs : XL) (val : Value) (n : Nd) (ov dv iv : Value) (wr : World) : Prop :=
  ∃ (k : Nat) (dn : Bool) (out : XL), k ≤ N ∧ iv = .int .i64 (k : Int) ∧ dv = .bool dn ∧ XR wr (w.heap.size + 1) ov out ∧ out.length ≤ k + dn.toNat ∧ out ++ rputL id (val, n) (xs.drop k) dn = rputL id (val, n) xs false ∧ Below w.heap.size w wr ∧ Below W1.heap.size W1 wr
theorem PutI.mk {w W1 : World} {id N : Nat} {xs : XL} {val : Value} {n : Nd} {ov : Value} {wr : World} (k : Nat) (dn : Bool) (out : XL) (h1 : k ≤ N) (h2 : XR wr (w.heap.size + 1) ov out) (h3 : out.length ≤ k + dn.toNat) (h4 : out ++ rputL id (val, n) (xs.drop k) dn = rputL id (val, n) xs false) (h5 : Below w.heap.size w wr) (h6 : Below W1.heap.size W1 wr) : PutI w W1 id N xs val n ov (.bool dn) (.int .i64 (k : Int)) wr := ⟨k, dn, out, h1, rfl, rfl, h2, h3, h4, h5, h6⟩
set_option maxHeartbeats 4000000 in
theorem rput_any (w : World) (base id N c ck : Nat) (A Ak : Option Addr) (xs : XL) (n : Nd) (h : XR w base (.slice A N c) xs) (hN : N = xs.length) (hNb : N ≤ 1000) (hid : id < 18446744073709551616) (hs : IdSl w w.heap.size (.slice Ak n.kids.length ck) n.kids) (hok : NdOk n) :
    Calls Try.prog 35 #[.slice A N c, .int .u64 (id : Int), ndV n (.slice Ak n.kids.length ck)] w (RPutR w (rputL id (ndV n (.slice Ak n.kids.length ck), n) xs false)) := by
  obtain ⟨i7, hi7, hz7, hs7, hb7⟩ := info_parts infoRow
  have hXb : Below w.heap.size w (w.alloc (.cells #[.int .u8 (n.kind : Int), .string n.name, .int .i64 n.num, .int .u8 (n.typ : Int), .int .u64 (n.ref : Int), .slice Ak n.kids.length ck] 33)) := (Below.refl _ _).alloc (Nat.le_refl _) _
  obtain ⟨W1, hW1⟩ : ∃ W1, W1 = w.alloc (.cells #[.int .u8 (n.kind : Int), .string n.name, .int .i64 n.num, .int .u8 (n.typ : Int), .int .u64 (n.ref : Int), .slice Ak n.kids.length ck] 33) := ⟨_, rfl⟩
  rw [← hW1] at hXb
  have hXh : W1.heap[w.heap.size]? = some (.cells #[.int .u8 (n.kind : Int), .string n.name, .int .i64 n.num, .int .u8 (n.typ : Int), .int .u64 (n.ref : Int), .slice Ak n.kids.length ck] 33 (0, 0)) := by rw [hW1]; exact Go.heap_alloc_new _ _
  obtain ⟨val, hval⟩ : ∃ val, val = ndV n (.slice Ak n.kids.length ck) := ⟨_, rfl⟩
  have HNV : Hid (∀ y, Below w.heap.size w y → NodeV y val n) := Lib.hid fun y hy => ⟨⟨Ak, ck, hval, (hs.below hy).up hy.size⟩, hok⟩
  rw [← hval]
  have HVAL := Lib.hid hval
  have HX := Lib.hid h
  have HXB := Lib.hid hXb
  have HXH := Lib.hid hXh
  have HN := Lib.hid hN
  have HW1 := Lib.hid hW1
  rw [hval]
  unfold ndV
  clear h hs hXb hXh hN hW1 hval
  go_enter Try.func35, Try.ntmps35
  go_wp2_with fail
  rw [← HW1.out]
  go_loopw [7, 8, 13] (fun ov dv iv wr => PutI w W1 id N xs val n ov dv iv wr) (fun _ _ iv _ => N - (intOf iv).toNat)
  case atStart => exact PutI.mk 0 false [] (Nat.zero_le _) ⟨World.ownsRow_nil _ _ _ _, by simp, by simp⟩ (Nat.zero_le _) rfl HXB.out (Below.refl _ _)
  case round =>
    obtain ⟨k, dn, out, hk, rfl, rfl, hxo, hol, heq, hb, hbw⟩ := hrel
    obtain ⟨Ao, co, rfl⟩ := row_form hxo.own
    have HXO := Lib.hid hxo
    have HEQ := Lib.hid heq
    have HB := Lib.hid hb
    have HBW := Lib.hid hbw
    obtain ⟨no, hno⟩ : ∃ no, no = out.length := ⟨_, rfl⟩
    rw [← hno] at hol ⊢
    have HNO := Lib.hid hno
    have hdn1 : dn.toNat ≤ 1 := by cases dn <;> decide
    obtain ⟨n0, n1, n2, n3, n4, n5, _⟩ := box_cells ((hbw.block _ (lt_of_heap2 HXH.out)).trans HXH.out)
    clear hxo heq hb hbw hno
    by_cases hlt : k < N
    · have hltI : (k : Int) < (N : Int) := by omega
      obtain ⟨p, hp⟩ : ∃ p, xs[k]? = some p := by rw [HN.out] at hlt; exact ⟨_, List.getElem?_eq_getElem hlt⟩
      obtain ⟨g, Ap, cp, hA, hgb, hpv, hpi, hpo, e0, e1, e2, e3, e4, e5, e6⟩ := (HX.out.below HB.out).at_ hp
      have hdrop : xs.drop k = p :: xs.drop (k + 1) := by
        have h1 := (List.getElem?_eq_some_iff.1 hp)
        rw [List.drop_eq_getElem_cons h1.1, h1.2]
      have hpx := HX.out.small p (List.mem_of_getElem? hp)
      obtain ⟨pid, pv, pn⟩ := p
      dsimp only at hpv hpi hpo e0 e1 e2 e3 e4 e5 e6 hpx
      have HEQ2 := HEQ.out
      rw [hdrop] at HEQ2
      have HNP : Hid (∀ y, Below wr.heap.size wr y → NodeV y pv pn) := Lib.hid fun y hy => ⟨⟨Ap, cp, hpv, (hpi.below hy).up hy.size⟩, hpo⟩
      have HPV := Lib.hid hpv
      subst hA
      obtain ⟨W2, hW2⟩ : ∃ W2, W2 = wr.alloc (.cells #[.int .u64 (pid : Int), .int .u8 (pn.kind : Int), .string pn.name, .int .i64 pn.num, .int .u8 (pn.typ : Int), .int .u64 (pn.ref : Int), .slice Ap pn.kids.length cp] 69) := ⟨_, rfl⟩
      have hb2 : Below wr.heap.size wr W2 := by rw [hW2]; exact (Below.refl _ _).alloc (Nat.le_refl _) _
      have hx2 : W2.heap[wr.heap.size]? = some (.cells #[.int .u64 (pid : Int), .int .u8 (pn.kind : Int), .string pn.name, .int .i64 pn.num, .int .u8 (pn.typ : Int), .int .u64 (pn.ref : Int), .slice Ap pn.kids.length cp] 69 (0, 0)) := by rw [hW2]; exact Go.heap_alloc_new _ _
      have HB2 := Lib.hid hb2
      have HX2 := Lib.hid hx2
      have HXO2 := Lib.hid (HXO.out.below hb2)
      have HW2 := Lib.hid hW2
      clear hpv hpi hpo hp hdrop hb2 hx2 hW2
      have HE := Lib.hid HEQ2
      clear HEQ2
      by_cases hpe : pid = id
      · subst hpe
        go_wp2_with fail
        have hfin := HE.out
        rw [show rputL pid (val, n) ((pid, (pv, pn)) :: xs.drop (k + 1)) dn = rputL pid (val, n) (xs.drop (k + 1)) dn from by show (if pid = pid then _ else _) = _; rw [if_pos rfl]] at hfin
        rw [← HW2.out]
        go_roundw
        case rel => exact PutI.mk (N := N) (k + 1) dn out (by omega) (by rw [HNO.out]; exact HXO2.out) (by rw [← HNO.out]; omega) hfin (HB.out.trans (HB2.out.mono HB.out.size)) (HBW.out.trans (HB2.out.mono HBW.out.size))
        case measure =>
          simp [intOf]
          omega
      · have hpI : ((pid : Int) == (id : Int)) = false := by rw [beq_eq_false_iff_ne]; omega
        have hpJ : ¬ (pid : Int) = (id : Int) := by omega
        have hs2 : W2.heap.size = wr.heap.size + 1 := by rw [HW2.out]; simp
        have hwr1 : w.heap.size + 1 ≤ wr.heap.size := by have := HBW.out.size; rw [HW1.out] at this; simp at this; omega
        have HS2 := Lib.hid hs2
        have hrowp : ∀ y : World, Below W2.heap.size W2 y → XR y (w.heap.size + 1) (.slice Ao no co) out := fun y hy => by rw [HNO.out]; exact HXO2.out.below hy
        have HROW := Lib.hid hrowp
        clear hrowp
        have hnob : no ≤ 2000 := by omega
        by_cases hlo : id < pid ∧ dn = false
        · obtain ⟨hlo1, rfl⟩ := hlo
          have hol2 : no ≤ k := hol
          have hloI : (id : Int) < (pid : Int) := by omega
          have hloD : decide ((id : Int) < (pid : Int)) = true := decide_eq_true hloI
          have hn2 := (HB2.out.block _ (Nat.lt_of_lt_of_le (lt_of_heap2 HXH.out) HBW.out.size)).trans ((HBW.out.block _ (lt_of_heap2 HXH.out)).trans HXH.out)
          rw [HW2.out] at hn2
          obtain ⟨m0, m1, m2, m3, m4, m5, _⟩ := box_cells hn2
          clear hn2
          go_wp2_with (first
            | (at_builtin; (
                rw [← HW2.out];
                have hal : Below W2.heap.size W2 (W2.alloc (.cells #[.int .u64 (id : Int), .int .u8 (n.kind : Int), .string n.name, .int .i64 n.num, .int .u8 (n.typ : Int), .int .u64 (n.ref : Int), .slice Ak n.kids.length ck] 69)) := (Below.refl _ _).alloc (Nat.le_refl _) _;
                have hxr := HROW.out _ hal;
                refine wpList_append_own_at _ rfl _ _ 22 rfl (w.heap.size + 1) 69 i7 (.agg #[.int .u64 0, .int .u8 0, .string ⟨#[]⟩, .int .i64 0, .int .u8 0, .int .u64 0, .slice none 0 0]) 7 80 Try.underlying22 hi7 hz7 hs7 hb7 rfl (by decide) (.slice Ao no co) (no) (xCells (out)) rfl (by have h9 := hxr.own; simpa [← HNO.out] using h9) ⟨wr.heap.size + 1, 0, none⟩ 1 1 [.int .u64 (id : Int), .int .u8 (n.kind : Int), .string n.name, .int .i64 n.num, .int .u8 (n.typ : Int), .int .u64 (n.ref : Int), .slice Ak n.kids.length ck] rfl rfl (by have h9 := row_lie W2 (cs := [.int .u64 (id : Int), .int .u8 (n.kind : Int), .string n.name, .int .i64 n.num, .int .u8 (n.typ : Int), .int .u64 (n.ref : Int), .slice Ak n.kids.length ck]); simpa [HS2.out] using h9) found_one (by unfold maxLen; omega) (by omega) (by have := hal.size; have := HB2.out.size; have := HS2.out; simp; omega) ?_;
                intro v' w' hown' hgrow hnil hloc;
                have hnv := HNV.out _ ((HB.out.trans (HB2.out.mono HB.out.size)).trans (hal.mono (Nat.le_trans HB.out.size HB2.out.size)));
                have hlist : [.int .u64 (id : Int), .int .u8 (n.kind : Int), .string n.name, .int .i64 n.num, .int .u8 (n.typ : Int), .int .u64 (n.ref : Int), .slice Ak n.kids.length ck] = (.int .u64 (id : Int) :: ndCells val) := by rw [HVAL.out]; rfl;
                rw [hlist] at hown';
                have hxr2 := hxr.more (id := id) (val := val) (nd := n) hgrow (by simpa [← HNO.out] using hown') hnv hid;
                have hba := ((HB.out.trans (HB2.out.mono HB.out.size)).trans (hal.mono (Nat.le_trans HB.out.size HB2.out.size))).grown hgrow (by have := hal.size; have := HB.out.size; have := HB2.out.size; have := HS2.out; simp at *; omega) (fun k e => by have := (World.ownsRow.lt hxr.own k e).1; omega);
                have hbc := ((HBW.out.trans (HB2.out.mono HBW.out.size)).trans (hal.mono (Nat.le_trans HBW.out.size HB2.out.size))).grown hgrow (by have := hal.size; have := HBW.out.size; have := HB2.out.size; have := HS2.out; simp at *; omega) (fun k e => by have := (World.ownsRow.lt hxr.own k e).1; rw [HW1.out]; simp; omega);
                obtain ⟨A1, c1, rfl⟩ := row_form hown';
                have hx3 := (hgrow.block wr.heap.size (by have := hal.size; have := HS2.out; simp at *; omega) (fun e => by have := (World.ownsRow.lt HXO.out.own wr.heap.size (by rw [← HNO.out]; exact e.symm)).2; omega)).trans ((hal.block _ (lt_of_heap2 HX2.out)).trans HX2.out);
                obtain ⟨d0, d1, d2, d3, d4, d5, d6⟩ := box7 hx3;
                have HNP3 := Lib.hid (NodeV.keep (HNP.out _ (HB2.out.trans (hal.mono HB2.out.size))) hgrow.size fun j cs z hj => grown_other hgrow hxr.own hj (by decide));
                have HXR3 := Lib.hid hxr2;
                have HBA3 := Lib.hid hba;
                have HBC3 := Lib.hid hbc;
                clear hown' hgrow hnil hloc hxr hxr2 hba hbc hal hnv hlist hx3))
            | (at_builtin; (
                skip;
                have hal : Below w'.heap.size w' (w'.alloc (.cells #[.int .u64 (pid : Int), .int .u8 (pn.kind : Int), .string pn.name, .int .i64 pn.num, .int .u8 (pn.typ : Int), .int .u64 (pn.ref : Int), .slice Ap pn.kids.length cp] 69)) := (Below.refl _ _).alloc (Nat.le_refl _) _;
                have hxr := HXR3.out.below hal;
                refine wpList_append_own_at _ rfl _ _ 22 rfl (w.heap.size + 1) 69 i7 (.agg #[.int .u64 0, .int .u8 0, .string ⟨#[]⟩, .int .i64 0, .int .u8 0, .int .u64 0, .slice none 0 0]) 7 80 Try.underlying22 hi7 hz7 hs7 hb7 rfl (by decide) (.slice A1 (no + 1) c1) (no + 1) (xCells (out ++ [(id, (val, n))])) rfl (by have h9 := hxr.own; simpa [← HNO.out] using h9) ⟨w'.heap.size, 0, none⟩ 1 1 [.int .u64 (pid : Int), .int .u8 (pn.kind : Int), .string pn.name, .int .i64 pn.num, .int .u8 (pn.typ : Int), .int .u64 (pn.ref : Int), .slice Ap pn.kids.length cp] rfl rfl (by have h9 := row_lie w' (cs := [.int .u64 (pid : Int), .int .u8 (pn.kind : Int), .string pn.name, .int .i64 pn.num, .int .u8 (pn.typ : Int), .int .u64 (pn.ref : Int), .slice Ap pn.kids.length cp]); simpa [HS2.out] using h9) found_one (by unfold maxLen; omega) (by omega) (by have := hal.size; have := HBA3.out.size; have := HBC3.out.size; simp; omega) ?_;
                intro v' w' hown' hgrow hnil hloc;
                have hnv := HNP3.out.below hal;
                have hlist : [.int .u64 (pid : Int), .int .u8 (pn.kind : Int), .string pn.name, .int .i64 pn.num, .int .u8 (pn.typ : Int), .int .u64 (pn.ref : Int), .slice Ap pn.kids.length cp] = (.int .u64 (pid : Int) :: ndCells pv) := by rw [HPV.out]; rfl;
                rw [hlist] at hown';
                have hxr2 := hxr.more (id := pid) (val := pv) (nd := pn) hgrow (by simpa [← HNO.out] using hown') hnv hpx;
                have hba := (HBA3.out.trans (hal.mono HBA3.out.size)).grown hgrow (by have := hal.size; have := HB.out.size; have := HBA3.out.size; have := HBC3.out.size; simp at *; omega) (fun k e => by have := (World.ownsRow.lt hxr.own k e).1; omega);
                have hbc := (HBC3.out.trans (hal.mono HBC3.out.size)).grown hgrow (by have := hal.size; have := HBW.out.size; have := HBA3.out.size; have := HBC3.out.size; simp at *; omega) (fun k e => by have := (World.ownsRow.lt hxr.own k e).1; rw [HW1.out]; simp; omega);
                have HXR4 := Lib.hid hxr2;
                have HBA4 := Lib.hid hba;
                have HBC4 := Lib.hid hbc;
                clear hown' hgrow hnil hloc hxr hxr2 hba hbc hal hnv hlist))
)
          have hfin := HE.out
          rw [show rputL id (val, n) ((pid, (pv, pn)) :: xs.drop (k + 1)) false = (id, (val, n)) :: (pid, (pv, pn)) :: rputL id (val, n) (xs.drop (k + 1)) true from by show (if pid = id then _ else if id < pid ∧ false = false then _ else _) = _; rw [if_neg hpe, if_pos ⟨hlo1, rfl⟩]] at hfin
          have hPI := PutI.mk (id := id) (N := N) (xs := xs) (val := val) (n := n) (k + 1) true ((out ++ [(id, (val, n))]) ++ [(pid, (pv, pn))]) (by omega) HXR4.out (by show _ ≤ k + 1 + 1; rw [List.length_append, List.length_append, ← HNO.out]; simp; omega) (by rw [← hfin]; simp) HBA4.out HBC4.out
          first
            | refine ⟨⟨_, _, _, _, _, _, _, _, _, _, _, _, _, _, _, _, _, _, _, _, _, _, _, _, _, _, _, _, _, _, hPI, rfl⟩, ?measure⟩
            | refine ⟨⟨_, _, _, _, hPI, rfl, rfl, rfl, rfl⟩, ?measure⟩
            | refine ⟨hPI, ?measure⟩
          case measure =>
            simp [intOf]
            omega
        · have hrp : rputL id (val, n) ((pid, (pv, pn)) :: xs.drop (k + 1)) dn = (pid, (pv, pn)) :: rputL id (val, n) (xs.drop (k + 1)) dn := by show (if pid = id then _ else if id < pid ∧ dn = false then _ else _) = _; rw [if_neg hpe, if_neg hlo]
          have HRP := Lib.hid hrp
          clear hrp
          by_cases hl2 : id < pid
          · have hdn : dn = true := by cases dn; exact absurd ⟨hl2, rfl⟩ hlo; rfl
            subst hdn
            have hol2 : no ≤ k + 1 := hol
            have hloI : (id : Int) < (pid : Int) := by omega
            have hloD : decide ((id : Int) < (pid : Int)) = true := decide_eq_true hloI
            go_wp2_with (first
              | (at_builtin; (
                  rw [← HW2.out];
                  have hal : Below W2.heap.size W2 (W2.alloc (.cells #[.int .u64 (pid : Int), .int .u8 (pn.kind : Int), .string pn.name, .int .i64 pn.num, .int .u8 (pn.typ : Int), .int .u64 (pn.ref : Int), .slice Ap pn.kids.length cp] 69)) := (Below.refl _ _).alloc (Nat.le_refl _) _;
                  have hxr := HROW.out _ hal;
                  refine wpList_append_own_at _ rfl _ _ 22 rfl (w.heap.size + 1) 69 i7 (.agg #[.int .u64 0, .int .u8 0, .string ⟨#[]⟩, .int .i64 0, .int .u8 0, .int .u64 0, .slice none 0 0]) 7 80 Try.underlying22 hi7 hz7 hs7 hb7 rfl (by decide) (.slice Ao no co) (no) (xCells (out)) rfl (by have h9 := hxr.own; simpa [← HNO.out] using h9) ⟨wr.heap.size + 1, 0, none⟩ 1 1 [.int .u64 (pid : Int), .int .u8 (pn.kind : Int), .string pn.name, .int .i64 pn.num, .int .u8 (pn.typ : Int), .int .u64 (pn.ref : Int), .slice Ap pn.kids.length cp] rfl rfl (by have h9 := row_lie W2 (cs := [.int .u64 (pid : Int), .int .u8 (pn.kind : Int), .string pn.name, .int .i64 pn.num, .int .u8 (pn.typ : Int), .int .u64 (pn.ref : Int), .slice Ap pn.kids.length cp]); simpa [HS2.out] using h9) found_one (by unfold maxLen; omega) (by omega) (by have := hal.size; have := HB2.out.size; have := HS2.out; simp; omega) ?_;
                  intro v' w' hown' hgrow hnil hloc;
                  have hnv := HNP.out _ (HB2.out.trans (hal.mono HB2.out.size));
                  have hlist : [.int .u64 (pid : Int), .int .u8 (pn.kind : Int), .string pn.name, .int .i64 pn.num, .int .u8 (pn.typ : Int), .int .u64 (pn.ref : Int), .slice Ap pn.kids.length cp] = (.int .u64 (pid : Int) :: ndCells pv) := by rw [HPV.out]; rfl;
                  rw [hlist] at hown';
                  have hxr2 := hxr.more (id := pid) (val := pv) (nd := pn) hgrow (by simpa [← HNO.out] using hown') hnv hpx;
                  have hba := ((HB.out.trans (HB2.out.mono HB.out.size)).trans (hal.mono (Nat.le_trans HB.out.size HB2.out.size))).grown hgrow (by have := hal.size; have := HB.out.size; have := HB2.out.size; have := HS2.out; simp at *; omega) (fun k e => by have := (World.ownsRow.lt hxr.own k e).1; omega);
                  have hbc := ((HBW.out.trans (HB2.out.mono HBW.out.size)).trans (hal.mono (Nat.le_trans HBW.out.size HB2.out.size))).grown hgrow (by have := hal.size; have := HBW.out.size; have := HB2.out.size; have := HS2.out; simp at *; omega) (fun k e => by have := (World.ownsRow.lt hxr.own k e).1; rw [HW1.out]; simp; omega);
                  have HXR4 := Lib.hid hxr2;
                  have HBA4 := Lib.hid hba;
                  have HBC4 := Lib.hid hbc;
                  clear hown' hgrow hnil hloc hxr hxr2 hba hbc hal hnv hlist))
)
            have hfin := HE.out
            rw [HRP.out] at hfin
            have hPI := PutI.mk (id := id) (N := N) (xs := xs) (val := val) (n := n) (k + 1) true (out ++ [(pid, (pv, pn))]) (by omega) HXR4.out (by show _ ≤ k + 1 + 1; rw [List.length_append, ← HNO.out]; simp; omega) (by rw [← hfin]; simp) HBA4.out HBC4.out
            first
              | refine ⟨⟨_, _, _, _, _, _, _, _, _, _, _, _, _, _, _, _, _, _, _, _, _, _, _, _, _, _, _, _, _, _, hPI, rfl⟩, ?measure⟩
              | refine ⟨⟨_, _, _, _, hPI, rfl, rfl, rfl, rfl⟩, ?measure⟩
              | refine ⟨hPI, ?measure⟩
            case measure =>
              simp [intOf]
              omega
          · have hloI : ¬ (id : Int) < (pid : Int) := by omega
            have hloD : decide ((id : Int) < (pid : Int)) = false := decide_eq_false hloI
            cases dn with
            | false =>
              have hol2 : no ≤ k + 0 := hol
              go_wp2_with (first
                | (at_builtin; (
                    rw [← HW2.out];
                    have hal : Below W2.heap.size W2 (W2.alloc (.cells #[.int .u64 (pid : Int), .int .u8 (pn.kind : Int), .string pn.name, .int .i64 pn.num, .int .u8 (pn.typ : Int), .int .u64 (pn.ref : Int), .slice Ap pn.kids.length cp] 69)) := (Below.refl _ _).alloc (Nat.le_refl _) _;
                    have hxr := HROW.out _ hal;
                    refine wpList_append_own_at _ rfl _ _ 22 rfl (w.heap.size + 1) 69 i7 (.agg #[.int .u64 0, .int .u8 0, .string ⟨#[]⟩, .int .i64 0, .int .u8 0, .int .u64 0, .slice none 0 0]) 7 80 Try.underlying22 hi7 hz7 hs7 hb7 rfl (by decide) (.slice Ao no co) (no) (xCells (out)) rfl (by have h9 := hxr.own; simpa [← HNO.out] using h9) ⟨wr.heap.size + 1, 0, none⟩ 1 1 [.int .u64 (pid : Int), .int .u8 (pn.kind : Int), .string pn.name, .int .i64 pn.num, .int .u8 (pn.typ : Int), .int .u64 (pn.ref : Int), .slice Ap pn.kids.length cp] rfl rfl (by have h9 := row_lie W2 (cs := [.int .u64 (pid : Int), .int .u8 (pn.kind : Int), .string pn.name, .int .i64 pn.num, .int .u8 (pn.typ : Int), .int .u64 (pn.ref : Int), .slice Ap pn.kids.length cp]); simpa [HS2.out] using h9) found_one (by unfold maxLen; omega) (by omega) (by have := hal.size; have := HB2.out.size; have := HS2.out; simp; omega) ?_;
                    intro v' w' hown' hgrow hnil hloc;
                    have hnv := HNP.out _ (HB2.out.trans (hal.mono HB2.out.size));
                    have hlist : [.int .u64 (pid : Int), .int .u8 (pn.kind : Int), .string pn.name, .int .i64 pn.num, .int .u8 (pn.typ : Int), .int .u64 (pn.ref : Int), .slice Ap pn.kids.length cp] = (.int .u64 (pid : Int) :: ndCells pv) := by rw [HPV.out]; rfl;
                    rw [hlist] at hown';
                    have hxr2 := hxr.more (id := pid) (val := pv) (nd := pn) hgrow (by simpa [← HNO.out] using hown') hnv hpx;
                    have hba := ((HB.out.trans (HB2.out.mono HB.out.size)).trans (hal.mono (Nat.le_trans HB.out.size HB2.out.size))).grown hgrow (by have := hal.size; have := HB.out.size; have := HB2.out.size; have := HS2.out; simp at *; omega) (fun k e => by have := (World.ownsRow.lt hxr.own k e).1; omega);
                    have hbc := ((HBW.out.trans (HB2.out.mono HBW.out.size)).trans (hal.mono (Nat.le_trans HBW.out.size HB2.out.size))).grown hgrow (by have := hal.size; have := HBW.out.size; have := HB2.out.size; have := HS2.out; simp at *; omega) (fun k e => by have := (World.ownsRow.lt hxr.own k e).1; rw [HW1.out]; simp; omega);
                    have HXR4 := Lib.hid hxr2;
                    have HBA4 := Lib.hid hba;
                    have HBC4 := Lib.hid hbc;
                    clear hown' hgrow hnil hloc hxr hxr2 hba hbc hal hnv hlist))
)
              have hfin := HE.out
              rw [HRP.out] at hfin
              have hPI := PutI.mk (id := id) (N := N) (xs := xs) (val := val) (n := n) (k + 1) false (out ++ [(pid, (pv, pn))]) (by omega) HXR4.out (by show _ ≤ k + 1 + 0; rw [List.length_append, ← HNO.out]; simp; omega) (by rw [← hfin]; simp) HBA4.out HBC4.out
              first
                | refine ⟨⟨_, _, _, _, _, _, _, _, _, _, _, _, _, _, _, _, _, _, _, _, _, _, _, _, _, _, _, _, _, _, hPI, rfl⟩, ?measure⟩
                | refine ⟨⟨_, _, _, _, hPI, rfl, rfl, rfl, rfl⟩, ?measure⟩
                | refine ⟨hPI, ?measure⟩
              case measure =>
                simp [intOf]
                omega
            | true =>
              have hol2 : no ≤ k + 1 := hol
              go_wp2_with (first
                | (at_builtin; (
                    rw [← HW2.out];
                    have hal : Below W2.heap.size W2 (W2.alloc (.cells #[.int .u64 (pid : Int), .int .u8 (pn.kind : Int), .string pn.name, .int .i64 pn.num, .int .u8 (pn.typ : Int), .int .u64 (pn.ref : Int), .slice Ap pn.kids.length cp] 69)) := (Below.refl _ _).alloc (Nat.le_refl _) _;
                    have hxr := HROW.out _ hal;
                    refine wpList_append_own_at _ rfl _ _ 22 rfl (w.heap.size + 1) 69 i7 (.agg #[.int .u64 0, .int .u8 0, .string ⟨#[]⟩, .int .i64 0, .int .u8 0, .int .u64 0, .slice none 0 0]) 7 80 Try.underlying22 hi7 hz7 hs7 hb7 rfl (by decide) (.slice Ao no co) (no) (xCells (out)) rfl (by have h9 := hxr.own; simpa [← HNO.out] using h9) ⟨wr.heap.size + 1, 0, none⟩ 1 1 [.int .u64 (pid : Int), .int .u8 (pn.kind : Int), .string pn.name, .int .i64 pn.num, .int .u8 (pn.typ : Int), .int .u64 (pn.ref : Int), .slice Ap pn.kids.length cp] rfl rfl (by have h9 := row_lie W2 (cs := [.int .u64 (pid : Int), .int .u8 (pn.kind : Int), .string pn.name, .int .i64 pn.num, .int .u8 (pn.typ : Int), .int .u64 (pn.ref : Int), .slice Ap pn.kids.length cp]); simpa [HS2.out] using h9) found_one (by unfold maxLen; omega) (by omega) (by have := hal.size; have := HB2.out.size; have := HS2.out; simp; omega) ?_;
                    intro v' w' hown' hgrow hnil hloc;
                    have hnv := HNP.out _ (HB2.out.trans (hal.mono HB2.out.size));
                    have hlist : [.int .u64 (pid : Int), .int .u8 (pn.kind : Int), .string pn.name, .int .i64 pn.num, .int .u8 (pn.typ : Int), .int .u64 (pn.ref : Int), .slice Ap pn.kids.length cp] = (.int .u64 (pid : Int) :: ndCells pv) := by rw [HPV.out]; rfl;
                    rw [hlist] at hown';
                    have hxr2 := hxr.more (id := pid) (val := pv) (nd := pn) hgrow (by simpa [← HNO.out] using hown') hnv hpx;
                    have hba := ((HB.out.trans (HB2.out.mono HB.out.size)).trans (hal.mono (Nat.le_trans HB.out.size HB2.out.size))).grown hgrow (by have := hal.size; have := HB.out.size; have := HB2.out.size; have := HS2.out; simp at *; omega) (fun k e => by have := (World.ownsRow.lt hxr.own k e).1; omega);
                    have hbc := ((HBW.out.trans (HB2.out.mono HBW.out.size)).trans (hal.mono (Nat.le_trans HBW.out.size HB2.out.size))).grown hgrow (by have := hal.size; have := HBW.out.size; have := HB2.out.size; have := HS2.out; simp at *; omega) (fun k e => by have := (World.ownsRow.lt hxr.own k e).1; rw [HW1.out]; simp; omega);
                    have HXR4 := Lib.hid hxr2;
                    have HBA4 := Lib.hid hba;
                    have HBC4 := Lib.hid hbc;
                    clear hown' hgrow hnil hloc hxr hxr2 hba hbc hal hnv hlist))
)
              have hfin := HE.out
              rw [HRP.out] at hfin
              have hPI := PutI.mk (id := id) (N := N) (xs := xs) (val := val) (n := n) (k + 1) true (out ++ [(pid, (pv, pn))]) (by omega) HXR4.out (by show _ ≤ k + 1 + 1; rw [List.length_append, ← HNO.out]; simp; omega) (by rw [← hfin]; simp) HBA4.out HBC4.out
              first
                | refine ⟨⟨_, _, _, _, _, _, _, _, _, _, _, _, _, _, _, _, _, _, _, _, _, _, _, _, _, _, _, _, _, _, hPI, rfl⟩, ?measure⟩
                | refine ⟨⟨_, _, _, _, hPI, rfl, rfl, rfl, rfl⟩, ?measure⟩
                | refine ⟨hPI, ?measure⟩
              case measure =>
                simp [intOf]
                omega
    · have hltI : ¬ (k : Int) < (N : Int) := by omega
      have hkN : k = N := by omega
      have hfin := HEQ.out
      rw [hkN, HN.out, List.drop_length] at hfin
      have HE := Lib.hid hfin
      have hwr1 : w.heap.size + 1 ≤ wr.heap.size := by have := HBW.out.size; rw [HW1.out] at this; simp at this; omega
      have hnob : no ≤ 2000 := by omega
      clear hfin
      cases dn with
      | true =>
        go_wp2_with fail
        go_ret
        have hfin := HE.out
        rw [show rputL id (val, n) [] true = [] from rfl, List.append_nil] at hfin
        have hv9 : (Value.agg #[.int .u8 (n.kind : Int), .string n.name, .int .i64 n.num, .int .u8 (n.typ : Int), .int .u64 (n.ref : Int), .slice Ak n.kids.length ck]) = val := HVAL.out.symm
        exact ⟨_, rfl, by rw [hv9, ← hfin]; show XR wr w.heap.size (.slice Ao no co) out; rw [HNO.out]; exact HXO.out.lower (Nat.le_succ _), HB.out⟩
      | false =>
        go_wp2_with (first
          | (at_builtin; go_loud (
              skip;
              have hal : Below wr.heap.size wr (wr.alloc (.cells #[.int .u64 (id : Int), .int .u8 (n.kind : Int), .string n.name, .int .i64 n.num, .int .u8 (n.typ : Int), .int .u64 (n.ref : Int), .slice Ak n.kids.length ck] 69)) := (Below.refl _ _).alloc (Nat.le_refl _) _;
              have hxr := (show XR (wr.alloc (.cells #[.int .u64 (id : Int), .int .u8 (n.kind : Int), .string n.name, .int .i64 n.num, .int .u8 (n.typ : Int), .int .u64 (n.ref : Int), .slice Ak n.kids.length ck] 69)) (w.heap.size + 1) (.slice Ao no co) out by rw [HNO.out]; exact HXO.out.below hal);
              refine wpList_append_own_at _ rfl _ _ 22 rfl (w.heap.size + 1) 69 i7 (.agg #[.int .u64 0, .int .u8 0, .string ⟨#[]⟩, .int .i64 0, .int .u8 0, .int .u64 0, .slice none 0 0]) 7 80 Try.underlying22 hi7 hz7 hs7 hb7 rfl (by decide) (.slice Ao no co) (no) (xCells (out)) rfl (by have h9 := hxr.own; simpa [← HNO.out] using h9) ⟨wr.heap.size, 0, none⟩ 1 1 [.int .u64 (id : Int), .int .u8 (n.kind : Int), .string n.name, .int .i64 n.num, .int .u8 (n.typ : Int), .int .u64 (n.ref : Int), .slice Ak n.kids.length ck] rfl rfl (by have h9 := row_lie wr (cs := [.int .u64 (id : Int), .int .u8 (n.kind : Int), .string n.name, .int .i64 n.num, .int .u8 (n.typ : Int), .int .u64 (n.ref : Int), .slice Ak n.kids.length ck]); simpa [HNO.out] using h9) found_one (by unfold maxLen; omega) (by omega) (by have := hal.size; simp; omega) ?_;
              intro v' w' hown' hgrow hnil hloc;
              have hnv := HNV.out _ (HB.out.trans (hal.mono HB.out.size));
              have hlist : [.int .u64 (id : Int), .int .u8 (n.kind : Int), .string n.name, .int .i64 n.num, .int .u8 (n.typ : Int), .int .u64 (n.ref : Int), .slice Ak n.kids.length ck] = (.int .u64 (id : Int) :: ndCells val) := by rw [HVAL.out]; rfl;
              rw [hlist] at hown';
              have hxr2 := hxr.more (id := id) (val := val) (nd := n) hgrow (by simpa [← HNO.out] using hown') hnv hid;
              have hba := (HB.out.trans (hal.mono HB.out.size)).grown hgrow (by have := hal.size; have := HB.out.size; simp at *; omega) (fun k e => by have := (World.ownsRow.lt hxr.own k e).1; omega);
              have hbc := (HBW.out.trans (hal.mono HBW.out.size)).grown hgrow (by have := hal.size; have := HBW.out.size; simp at *; omega) (fun k e => by have := (World.ownsRow.lt hxr.own k e).1; rw [HW1.out]; simp; omega);
              have HXR4 := Lib.hid hxr2;
              have HBA4 := Lib.hid hba;
              have HBC4 := Lib.hid hbc;
              clear hown' hgrow hnil hloc hxr hxr2 hba hbc hal hnv hlist))
)
        go_ret
        have hfin := HE.out
        rw [show rputL id (val, n) [] false = [(id, (val, n))] from rfl] at hfin
        have hv9 : (Value.agg #[.int .u8 (n.kind : Int), .string n.name, .int .i64 n.num, .int .u8 (n.typ : Int), .int .u64 (n.ref : Int), .slice Ak n.kids.length ck]) = val := HVAL.out.symm
        exact ⟨_, rfl, by rw [hv9, ← hfin]; exact HXR4.out.lower (Nat.le_succ _), HBA4.out⟩
end Go.Proofs.Ytdphpjlhkamadaa
