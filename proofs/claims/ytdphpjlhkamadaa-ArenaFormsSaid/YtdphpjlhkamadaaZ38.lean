/- ARows, ARAsk, ABytes: joined by program (tools/merge.py). -/
import Derived.Test.YtdphpjlhkamadaaZ37
import Derived.Test.YtdphpjlhkamadaaARPut
import Derived.Test.YtdphpjlhkamadaaZ8
import Derived.Test.YtdphpjlhkamadaaAWrite
namespace Go.Proofs.Ytdphpjlhkamadaa
open Go.RowKit Go.Shelf
set_option linter.unusedSimpArgs false
set_option linter.unusedVariables false
set_option maxRecDepth 100000
attribute [local go_sem] Oper.semAt_some undef
theorem nodes_keys {w : World} {vs : List (Nat × Value)} {ns : List (Nat × Nd)} (h : NodesV w vs ns) (hv : Rise vs) (hn : Rise ns) : vs.map (·.1) = ns.map (·.1) := by
  have h1 : (vs.map (·.1)).Pairwise (· < ·) := by unfold Rise at hv; rw [List.pairwise_map]; exact hv
  have h2 : (ns.map (·.1)).Pairwise (· < ·) := by unfold Rise at hn; rw [List.pairwise_map]; exact hn
  have hp : (vs.map (·.1)).Perm (ns.map (·.1)) := (List.perm_ext_iff_of_nodup (rise_nodup hv) (rise_nodup hn)).2 fun k => by
    rw [← hasL_mem, ← hasL_mem]
    obtain ⟨A, c, hold, hos, hook, hhas⟩ := h.get k
    rw [hhas]
  exact hp.eq_of_pairwise (fun a b _ _ h3 h4 => absurd h3 (by omega)) h1 h2
/-- What is told of the numbers. -/
def IdsR (w : World) (ks : List Nat) (e : Ending) (w' : World) : Prop := ∃ v : Value, e = .returned v ∧ w'.ownsRow w.heap.size 24 1 v ks.length (ids ks) ∧ Below w.heap.size w w'
theorem ids_any (w : World) (base ga gm gp N : Nat) (F : PF) (vs : List (Nat × Value)) (ns : List (Nat × Nd)) (h : AR w base ga gm gp F vs ns N) (hns : ns.length ≤ 1000000000) :
    Calls Try.prog 29 #[.pointer (some ⟨ga, 0, none⟩)] w (IdsR w (ns.map (·.1))) := by
  have q0 : w.cell? ⟨ga, 0, none⟩ = some (.map (some gm)) := by unfold World.cell?; rw [h.st]; rfl
  have hl := nodes_len h.nodes h.map.rise h.rise
  have hk := nodes_keys h.nodes h.map.rise h.rise
  have hb0 : Below w.heap.size w (w.alloc (.cells #[.map (some gm)] 70)) := (Below.refl _ _).alloc (Nat.le_refl _) _
  have HS := Lib.hid (sorted_any w.heap.size gm vs (w.alloc (.cells #[.map (some gm)] 70)) (by simp) (by unfold World.cell?; rw [Go.heap_alloc_new]; rfl) (h.map.at_ (hb0.block gm h.map.lt)) (by omega))
  have HK := fun (x : World) => Lib.hid (keys_any x (some gm))
  have HL := Lib.hid hl
  have HE := Lib.hid hk
  have HB := Lib.hid hb0
  clear h hl hk hb0
  go_enter Try.func29, Try.ntmps29
  go_wp2_with (first
    | (go_at_call 59; refine (HK _).out.mono ?_; rintro e w1 ⟨rfl, rfl⟩)
    | (go_at_call 58; refine HS.out.mono ?_; rintro e w2 ⟨v, rfl, ho, hb⟩; have HO := Lib.hid ho; have HB2 := Lib.hid hb; clear ho hb))
  go_ret
  refine ⟨v, rfl, ?_, HB.out.trans (HB2.out.mono HB.out.size)⟩
  have h5 := HO.out
  rw [HE.out] at h5
  rw [List.length_map, ← HL.out]
  refine ⟨h5.1, ?_⟩
  rcases h5.2 with e | ⟨g, cap, cur, e, h1, h2⟩
  · exact .inl e
  · exact .inr ⟨g, cap, cur, e, Nat.le_trans HB.out.size h1, h2⟩
/-- What is told of all that is in an arena. -/
def RowsR (w : World) (ns : List (Nat × Nd)) (e : Ending) (w' : World) : Prop := ∃ (v : Value) (xs : XL), e = .returned v ∧ XR w' w.heap.size v xs ∧ xNs xs = ns ∧ Below w.heap.size w w'
theorem xNs_snoc (xs : XL) (id : Nat) (v : Value) (n : Nd) : xNs (xs ++ [(id, (v, n))]) = xNs xs ++ [(id, n)] := by unfold xNs mapL; rw [List.map_append]; rfl
theorem xNs_len (xs : XL) : (xNs xs).length = xs.length := by unfold xNs mapL; rw [List.length_map]
/-- How far the list has come. -/
def RowsI (w w1 : World) (ns : List (Nat × Nd)) (ov iv : Value) (wr : World) : Prop :=
  ∃ (k : Nat) (out : XL), k ≤ ns.length ∧ iv = .int .i64 (k : Int) ∧ XR wr w1.heap.size ov out ∧ xNs out = ns.take k ∧ Below w.heap.size w wr ∧ Below w1.heap.size w1 wr
theorem RowsI.mk {w w1 wr : World} {ns : List (Nat × Nd)} {ov : Value} (k : Nat) (out : XL) (h1 : k ≤ ns.length) (h2 : XR wr w1.heap.size ov out) (h3 : xNs out = ns.take k) (h4 : Below w.heap.size w wr) (h5 : Below w1.heap.size w1 wr) : RowsI w w1 ns ov (.int .i64 (k : Int)) wr := ⟨k, out, h1, rfl, h2, h3, h4, h5⟩
set_option maxHeartbeats 4000000 in
theorem rows_any (w : World) (base ga gm gp N : Nat) (F : PF) (vs : List (Nat × Value)) (ns : List (Nat × Nd)) (h : AR w base ga gm gp F vs ns N) (hns : ns.length ≤ 1000000) :
    Calls Try.prog 15 #[.pointer (some ⟨ga, 0, none⟩)] w (RowsR w ns) := by
  obtain ⟨i7, hi7, hz7, hs7, hb7⟩ := info_parts infoRow
  have HID := Lib.hid (ids_any w base ga gm gp N F vs ns h (by omega))
  have HH := Lib.hid h
  have HR := Lib.hid h.rise
  have HNS := Lib.hid hns
  clear h hns
  go_enter Try.func15, Try.ntmps15
  go_wp2_with fail
  refine HID.out.mono ?_
  rintro e w1 ⟨v, rfl, ho, hb⟩
  rw [List.length_map] at ho
  obtain ⟨A1, c1, rfl⟩ := row_form ho
  obtain ⟨NN, hNN⟩ : ∃ n, n = ns.length := ⟨_, rfl⟩
  rw [← hNN] at ho ⊢
  have HO := Lib.hid ho
  have HB := Lib.hid hb
  have HN := Lib.hid hNN
  have hNb : NN ≤ 1000000 := by rw [hNN]; exact HNS.out
  clear ho hb hNN HID
  go_wp2_with fail
  go_loopw [3, 11] (fun ov iv wr => RowsI w w1 ns ov iv wr) (fun _ iv _ => NN - (intOf iv).toNat)
  case atStart => exact RowsI.mk 0 [] (Nat.zero_le _) ⟨World.ownsRow_nil _ _ _ _, by simp, by simp⟩ rfl HB.out (Below.refl _ _)
  case round =>
    obtain ⟨k, out, hk, rfl, hxo, hxn, hb, hbw⟩ := hrel
    rw [← HN.out] at hk
    obtain ⟨Ao, co, rfl⟩ := row_form hxo.own
    have hol : out.length = k := by
      have h1 := congrArg List.length hxn
      rw [xNs_len, List.length_take, ← HN.out] at h1
      omega
    have HXO := Lib.hid hxo
    have HXN := Lib.hid hxn
    have HBE := Lib.hid hb
    have HBW := Lib.hid hbw
    have HOL := Lib.hid hol
    rw [hol]
    clear hxo hxn hb hbw hol
    by_cases hlt : k < NN
    · have hltI : (k : Int) < (NN : Int) := by omega
      obtain ⟨p, hp⟩ : ∃ p, ns[k]? = some p := by rw [HN.out] at hlt; exact ⟨_, List.getElem?_eq_getElem hlt⟩
      obtain ⟨id, n⟩ := p
      have hgl : getL ns id = some n := getL_of_mem HR.out (List.mem_of_getElem? hp)
      have hhl : hasL ns id = true := by unfold hasL; rw [hgl]; rfl
      have hidc : (ids (ns.map (·.1)))[k]? = some (.int .u64 (id : Int)) := by unfold ids; rw [List.getElem?_map, List.getElem?_map, hp]; rfl
      obtain ⟨ad, hA, hadb, hcx⟩ := (Lies.of_own HO.out) k _ hidc
      subst hA
      have hcw := (HBW.out.cell (p := ad.add k) (by rw [addr_add_block]; exact hadb)).trans hcx
      have hid : id < 18446744073709551616 := by
        have hv := HH.out.map.small
        obtain ⟨Aq, cq, hold, hos, hook, hhas⟩ := HH.out.nodes.get id
        rw [hhl] at hhas
        obtain ⟨q, hq⟩ := Option.isSome_iff_exists.1 hhas
        exact hv _ (getL_mem hq)
      have hget := get_any wr base ga gm gp id N F vs ns (HH.out.below HBE.out) hid
      rw [hgl, hhl] at hget
      have HG := Lib.hid hget
      have HP := Lib.hid hp
      have hk1e : ns.take (k + 1) = ns.take k ++ [(id, n)] := by
        have h1 := (List.getElem?_eq_some_iff.1 hp)
        rw [List.take_succ_eq_append_getElem h1.1, h1.2]
      have HK1 := Lib.hid hk1e
      clear hp hgl hhl hidc hcx hget hadb hk1e
      have hxw : w.heap.size ≤ wr.heap.size := HBE.out.size
      go_wp2_with (first
        | (go_at_call 12; go_loud (
            (with_reducible refine (HG.out).mono ?_);
            rintro e w2 ⟨A2, c2, rfl, hn2, hfr2, hb2⟩;
            have hn2' : NodeV w2 (ndV n (.slice A2 n.kids.length c2)) n := hn2;
            have HN2 := Lib.hid hn2';
            have HB2 := Lib.hid hb2;
            have HBX := Lib.hid (Go.heap_alloc_new w2 (.cells #[.int .u8 (n.kind : Int), .string n.name, .int .i64 n.num, .int .u8 (n.typ : Int), .int .u64 (n.ref : Int), .slice A2 n.kids.length c2] 33));
            obtain ⟨m0, m1, m2, m3, m4, m5, _⟩ := box_cells HBX.out;
            unfold ndV;
            clear hn2 hn2' hfr2 hb2))
        | (at_builtin; go_loud (
            have hb3 : Below w2.heap.size w2 (w2.alloc (.cells #[.int .u8 (n.kind : Int), .string n.name, .int .i64 n.num, .int .u8 (n.typ : Int), .int .u64 (n.ref : Int), .slice A2 n.kids.length c2] 33)) := (Below.refl _ _).alloc (Nat.le_refl _) _;
            have hxo3 := (HXO.out.below (HB2.out.trans (hb3.mono HB2.out.size)));
            have hnv3 := HN2.out.below hb3;
            have hbe3 := HBE.out.trans ((HB2.out.trans (hb3.mono HB2.out.size)).mono HBE.out.size);
            have hbw3 := HBW.out.trans ((HB2.out.trans (hb3.mono HB2.out.size)).mono HBW.out.size);
            have hs3 : (w2.alloc (.cells #[.int .u8 (n.kind : Int), .string n.name, .int .i64 n.num, .int .u8 (n.typ : Int), .int .u64 (n.ref : Int), .slice A2 n.kids.length c2] 33)).heap.size = w2.heap.size + 1 := by simp;
            obtain ⟨W3, hW3⟩ : ∃ W3, W3 = w2.alloc (.cells #[.int .u8 (n.kind : Int), .string n.name, .int .i64 n.num, .int .u8 (n.typ : Int), .int .u64 (n.ref : Int), .slice A2 n.kids.length c2] 33) := ⟨_, rfl⟩;
            rw [← hW3] at hxo3 hnv3 hbe3 hbw3 hs3 ⊢;
            have hal : Below W3.heap.size W3 (W3.alloc (.cells #[.int .u64 (id : Int), .int .u8 (n.kind : Int), .string n.name, .int .i64 n.num, .int .u8 (n.typ : Int), .int .u64 (n.ref : Int), .slice A2 n.kids.length c2] 69)) := (Below.refl _ _).alloc (Nat.le_refl _) _;
            have hxr : XR (W3.alloc (.cells #[.int .u64 (id : Int), .int .u8 (n.kind : Int), .string n.name, .int .i64 n.num, .int .u8 (n.typ : Int), .int .u64 (n.ref : Int), .slice A2 n.kids.length c2] 69)) w1.heap.size (.slice Ao k co) out := (by have h9 := hxo3.below hal; rw [HOL.out] at h9; exact h9);
            refine wpList_append_own_at _ rfl _ _ 22 rfl w1.heap.size 69 i7 (.agg #[.int .u64 0, .int .u8 0, .string ⟨#[]⟩, .int .i64 0, .int .u8 0, .int .u64 0, .slice none 0 0]) 7 80 Try.underlying22 hi7 hz7 hs7 hb7 rfl (by decide) (.slice Ao k co) k (xCells out) rfl (by have h9 := hxr.own; rw [HOL.out] at h9; exact h9) ⟨w2.heap.size + 1, 0, none⟩ 1 1 [.int .u64 (id : Int), .int .u8 (n.kind : Int), .string n.name, .int .i64 n.num, .int .u8 (n.typ : Int), .int .u64 (n.ref : Int), .slice A2 n.kids.length c2] rfl rfl (by have h9 := row_lie W3 (cs := [.int .u64 (id : Int), .int .u8 (n.kind : Int), .string n.name, .int .i64 n.num, .int .u8 (n.typ : Int), .int .u64 (n.ref : Int), .slice A2 n.kids.length c2]); rw [hs3] at h9; simpa using h9) found_one (by unfold maxLen; omega) (by omega) (by have := hal.size; have := hbw3.size; omega) ?_;
            intro v' w' hown' hgrow hnil hloc;
            have hlist : [.int .u64 (id : Int), .int .u8 (n.kind : Int), .string n.name, .int .i64 n.num, .int .u8 (n.typ : Int), .int .u64 (n.ref : Int), .slice A2 n.kids.length c2] = (.int .u64 (id : Int) :: ndCells (ndV n (.slice A2 n.kids.length c2))) := rfl;
            rw [hlist] at hown';
            have hxr2 := hxr.more (id := id) (val := ndV n (.slice A2 n.kids.length c2)) (nd := n) hgrow (by rw [HOL.out]; exact hown') (hnv3.below hal) hid;
            have hba := (hbe3.trans (hal.mono hbe3.size)).grown hgrow (by have := hal.size; have := hbe3.size; omega) (fun q e => by have h1 := (World.ownsRow.lt hxr.own q e).1; have h2 := HB.out.size; omega);
            have hbc := (hbw3.trans (hal.mono hbw3.size)).grown hgrow (by have := hal.size; have := hbw3.size; omega) (fun q e => (World.ownsRow.lt hxr.own q e).1);
            obtain ⟨A9, c9, rfl⟩ := row_form hown';
            have HXR := Lib.hid hxr2;
            have HBA := Lib.hid hba;
            have HBC := Lib.hid hbc;
            clear hown' hgrow hnil hloc hxr hxr2 hba hbc hal hxo3 hnv3 hbe3 hbw3 hlist)))
      have hPI := RowsI.mk (w := w) (w1 := w1) (ns := ns) (k + 1) (out ++ [(id, (ndV n (.slice A2 n.kids.length c2), n))]) (by rw [← HN.out]; omega) HXR.out (by rw [xNs_snoc, HXN.out, HK1.out]) HBA.out HBC.out
      go_roundw
      case rel =>
        rw [show ((k : Int) + 1) = ((k + 1 : Nat) : Int) by omega]
        exact hPI
      case measure => simp [intOf]; omega
    · have hltI : ¬ (k : Int) < (NN : Int) := by omega
      obtain rfl : k = NN := by omega
      go_wp2_with fail
      go_ret
      refine ⟨_, out, rfl, (by have h9 := HXO.out.lower HB.out.size; rw [HOL.out] at h9; exact h9), ?_, HBE.out⟩
      rw [HXN.out, HN.out, List.take_length]
end Go.Proofs.Ytdphpjlhkamadaa
namespace Go.Proofs.Ytdphpjlhkamadaa
open Go.RowKit Go.Shelf
set_option linter.unusedSimpArgs false
set_option linter.unusedVariables false
set_option maxRecDepth 100000
attribute [local go_sem] Oper.semAt_some undef
/-- The cells of a row of numbers. -/
def IdCells (w : World) (A : Option Addr) (l : List Nat) : Prop := ∀ (j y : Nat), l[j]? = some y → ∃ ad, A = some ad ∧ w.cell? (ad.add j) = some (.int .u64 (y : Int))
theorem in_any (w : World) (n c x : Nat) (A : Option Addr) (l : List Nat) (h : IdCells w A l) (hn : n = l.length) (hnb : n ≤ 1000000000) :
    Calls Try.prog 40 #[.slice A n c, .int .u64 (x : Int)] w (BoolR w (x ∈ l)) := by
  have HH := Lib.hid h
  have HN := Lib.hid hn
  clear h hn
  go_enter Try.func40, Try.ntmps40
  go_wp2_with fail
  go_loopw [9] (fun i wr => ∃ k : Nat, k ≤ n ∧ i = .int .i64 (k : Int) ∧ (∀ j < k, l[j]? ≠ some x) ∧ wr = w) (fun i _ => n - (intOf i).toNat)
  case atStart => exact ⟨0, Nat.zero_le _, rfl, fun j hj => absurd hj (by omega), rfl⟩
  case round =>
    obtain ⟨k, hk, rfl, hno, rfl⟩ := hrel
    have HNO := Lib.hid hno
    clear hno
    by_cases hlt : k < n
    · have hltI : (k : Int) < (n : Int) := by omega
      obtain ⟨y, hy⟩ : ∃ y, l[k]? = some y := by rw [HN.out] at hlt; exact ⟨_, List.getElem?_eq_getElem hlt⟩
      obtain ⟨ad, hA, hcell⟩ := HH.out k y hy
      have HY := Lib.hid hy
      clear hy
      subst hA
      by_cases hxy : x = y
      · subst hxy
        go_wp2_with fail
        go_ret
        exact ⟨⟨true, rfl, iff_of_true rfl (List.mem_of_getElem? HY.out)⟩, Below.refl _ _⟩
      · have hxI : ((x : Int) == (y : Int)) = false := by rw [beq_eq_false_iff_ne]; omega
        have hxJ : ¬ (x : Int) = (y : Int) := by omega
        go_wp2_with fail
        go_roundw
        case rel =>
          refine ⟨k + 1, by omega, rfl, fun j hj e => ?_, by first | rfl | trivial⟩
          by_cases e2 : j = k
          · rw [e2, HY.out] at e; injection e with e; exact hxy e.symm
          · exact HNO.out j (by omega) e
        case measure =>
          simp [intOf]
          omega
    · have hltI : ¬ (k : Int) < (n : Int) := by omega
      have hkn : k = n := by omega
      go_wp2_with fail
      go_ret
      refine ⟨⟨false, rfl, iff_of_false (by decide) fun hm => ?_⟩, Below.refl _ _⟩
      obtain ⟨j, hj, e⟩ := List.getElem_of_mem hm
      exact HNO.out j (by have := HN.out; omega) (by rw [List.getElem?_eq_getElem hj, e])
def AtR (w : World) (xs : XL) (id : Nat) (e : Ending) (w' : World) : Prop :=
  ((∃ (i : Nat) (p : Nat × (Value × Nd)), e = .returned (.int .i64 (i : Int)) ∧ xs[i]? = some p ∧ p.1 = id) ∨ (e = .returned (.int .i64 (-1)) ∧ ∀ p ∈ xs, p.1 ≠ id)) ∧ Below w.heap.size w w'
def AtI (w : World) (n id : Nat) (xs : XL) (i : Value) (wr : World) : Prop := ∃ k : Nat, k ≤ n ∧ i = .int .i64 (k : Int) ∧ (∀ j p, j < k → xs[j]? = some p → p.1 ≠ id) ∧ Below w.heap.size w wr
theorem AtI.mk {w wr : World} {n id : Nat} {xs : XL} (k : Nat) (hk : k ≤ n) (h : ∀ j p, j < k → xs[j]? = some p → p.1 ≠ id) (hb : Below w.heap.size w wr) : AtI w n id xs (.int .i64 (k : Int)) wr := ⟨k, hk, rfl, h, hb⟩
theorem at_any (w : World) (base n c id : Nat) (A : Option Addr) (xs : XL) (h : XR w base (.slice A n c) xs) (hn : n = xs.length) (hnb : n ≤ 1000000000) :
    Calls Try.prog 39 #[.slice A n c, .int .u64 (id : Int)] w (AtR w xs id) := by
  have HH := Lib.hid h
  have HN := Lib.hid hn
  clear h hn
  go_enter Try.func39, Try.ntmps39
  go_wp2_with fail
  go_loopw [9] (fun i wr => AtI w n id xs i wr) (fun i _ => n - (intOf i).toNat)
  case atStart => exact AtI.mk 0 (Nat.zero_le _) (fun j p hj => absurd hj (by omega)) (Below.refl _ _)
  case round =>
    obtain ⟨k, hk, rfl, hno, hb⟩ := hrel
    have HNO := Lib.hid hno
    have HB := Lib.hid hb
    clear hno hb
    by_cases hlt : k < n
    · have hltI : (k : Int) < (n : Int) := by omega
      obtain ⟨p, hp⟩ : ∃ p, xs[k]? = some p := by rw [HN.out] at hlt; exact ⟨_, List.getElem?_eq_getElem hlt⟩
      obtain ⟨g, Ak, ck, hA, _, _, _, _, c0, c1, c2, c3, c4, c5, c6⟩ := (HH.out.below HB.out).at_ hp
      have HP := Lib.hid hp
      clear hp
      subst hA
      obtain ⟨pid, pv, pn⟩ := p
      dsimp only at c0 c1 c2 c3 c4 c5 c6
      by_cases hxy : pid = id
      · subst hxy
        go_wp2_with fail
        go_ret
        exact ⟨.inl ⟨k, _, rfl, HP.out, rfl⟩, HB.out.alloc HB.out.size _⟩
      · have hxI : ((pid : Int) == (id : Int)) = false := by rw [beq_eq_false_iff_ne]; omega
        have hxJ : ¬ (pid : Int) = (id : Int) := by omega
        go_wp2_with fail
        go_roundw
        case rel =>
          refine AtI.mk (k + 1) (by omega) (fun j p hj hp e => ?_) (HB.out.alloc HB.out.size _)
          by_cases e2 : j = k
          · rw [e2, HP.out] at hp; injection hp with hp; rw [← hp] at e; exact hxy e
          · exact HNO.out j p (by omega) hp e
        case measure =>
          simp [intOf]
          omega
    · have hltI : ¬ (k : Int) < (n : Int) := by omega
      have hkn : k = n := by omega
      go_wp2_with fail
      go_ret
      refine ⟨.inr ⟨rfl, fun p hp e => ?_⟩, HB.out⟩
      obtain ⟨j, hj, e2⟩ := List.getElem_of_mem hp
      exact HNO.out j p (by have := HN.out; omega) (by rw [List.getElem?_eq_getElem hj, e2]) e
end Go.Proofs.Ytdphpjlhkamadaa
namespace Go.Proofs.Ytdphpjlhkamadaa
open Go.RowKit
set_option linter.unusedSimpArgs false
set_option linter.unusedVariables false
set_option maxRecDepth 100000
attribute [local go_sem] Oper.semAt_some undef
def lastId : Nat → List (Nat × Nd) → Nat
  | b, [] => b
  | _, p :: r => lastId p.1 r
theorem lastId_snoc : ∀ (l : List (Nat × Nd)) (b : Nat) (p : Nat × Nd), lastId b (l ++ [p]) = p.1
  | [], _, _ => rfl
  | q :: l, _, p => lastId_snoc l q.1 p
theorem nodesB_append : ∀ (l m : List (Nat × Nd)) (b : Nat), nodesB b (l ++ m) = nodesB b l ++ nodesB (lastId b l) m
  | [], _, _ => rfl
  | q :: l, m, b => by
    show num (q.1 - b) ++ nodeB q.2 ++ nodesB q.1 (l ++ m) = num (q.1 - b) ++ nodeB q.2 ++ nodesB q.1 l ++ nodesB (lastId q.1 l) m
    rw [nodesB_append l m q.1, List.append_assoc (num (q.1 - b) ++ nodeB q.2)]
theorem nodesB_snoc (l : List (Nat × Nd)) (b : Nat) (p : Nat × Nd) : nodesB b (l ++ [p]) = nodesB b l ++ (num (p.1 - lastId b l) ++ nodeB p.2) := by
  rw [nodesB_append]
  congr 1
  show num (p.1 - lastId b l) ++ nodeB p.2 ++ [] = _
  rw [List.append_nil]
theorem lastId_le : ∀ (l : List (Nat × Nd)) (b x : Nat), b ≤ x → (∀ q ∈ l, q.1 < x) → lastId b l ≤ x
  | [], _, _, h, _ => h
  | q :: l, _, x, _, h => lastId_le l q.1 x (Nat.le_of_lt (h q (by simp))) fun r hr => h r (by simp [hr])
theorem take_lt {ns : List (Nat × Nd)} {k : Nat} {p : Nat × Nd} (hr : Rise ns) (hp : ns[k]? = some p) : ∀ q ∈ ns.take k, q.1 < p.1 := by
  have h1 := (List.getElem?_eq_some_iff.1 hp)
  have hd : ns.drop k = p :: ns.drop (k + 1) := by rw [List.drop_eq_getElem_cons h1.1, h1.2]
  have h2 := hr
  unfold Rise at h2
  rw [← List.take_append_drop k ns, List.pairwise_append] at h2
  intro q hq
  exact h2.2.2 q hq p (by rw [hd]; simp)
theorem nodesB_take (ns : List (Nat × Nd)) (k : Nat) : (nodesB 0 (ns.take k)).length ≤ (nodesB 0 ns).length := by
  conv => rhs; rw [← List.take_append_drop k ns, nodesB_append, List.length_append]
  omega
theorem AR.wrote {W w1 : World} {b ga gm gp N base g : Nat} {F : PF} {vs : List (Nat × Value)} {ns : List (Nat × Nd)} {v0 : Value} {l l0 : List Nat} (h : AR W b ga gm gp F vs ns N) (h0 : Wtr W base g v0 l0) (hw : Wrote W base g v0 l w1) : AR w1 b ga gm gp F vs ns N := by
  obtain ⟨v, _, hC, _⟩ := hw
  refine h.keep (S := fun j => j = g ∨ v0.ownBlock = some j) ⟨hC.os, hC.tape, hC.output, hC.size, fun j hj hn => hC.block j hj (fun e => hn (.inl e)) (fun e => hn (.inr e.symm))⟩ fun j hj => ?_
  have hcell : ∃ cs t, W.heap[j]? = some (.cells cs t (0, 0)) ∧ (t = 85 ∨ t = 5) := by
    rcases hj with e | e
    · rw [e]; exact ⟨_, _, h0.st, .inl rfl⟩
    · rcases h0.own.2 with ⟨e2, _⟩ | ⟨q, cap, cur, e2, _, hg, _⟩
      · rw [e2] at e; cases e
      · rw [e2] at e
        have e3 : q = j := Option.some.inj e
        rw [← e3]; exact ⟨_, _, hg, .inr rfl⟩
  obtain ⟨cs, t, hjc, ht⟩ := hcell
  refine ⟨fun e => ?_, fun ho => ?_, fun cs' z e => ?_⟩
  · rw [e, h.st] at hjc
    injection hjc with hjc
    injection hjc with _ h2 _
    rcases ht with e3 | e3 <;> rw [e3] at h2 <;> revert h2 <;> decide
  · rcases h.obj ho with ⟨es, cl, h1⟩ | ⟨cs2, h1⟩
    · rw [h1] at hjc; cases hjc
    · rw [h1] at hjc
      injection hjc with hjc
      injection hjc with _ h2 _
      rcases ht with e3 | e3 <;> rw [e3] at h2 <;> revert h2 <;> decide
  · rw [hjc] at e
    injection e with e
    injection e with _ h2 _
    rcases ht with e3 | e3 <;> rw [e3] at h2 <;> revert h2 <;> decide
def ByI (W : World) (base g : Nat) (v : Value) (ns : List (Nat × Nd)) (bv iv : Value) (wr : World) : Prop :=
  ∃ k : Nat, k ≤ ns.length ∧ iv = .int .i64 (k : Int) ∧ bv = .int .u64 ((lastId 0 (ns.take k) : Nat) : Int) ∧ Wrote W base g v (num ns.length ++ nodesB 0 (ns.take k)) wr
theorem ByI.mk {W wr : World} {base g : Nat} {v : Value} {ns : List (Nat × Nd)} (k : Nat) {bv : Value} (hk : k ≤ ns.length) (hb : bv = .int .u64 ((lastId 0 (ns.take k) : Nat) : Int)) (h : Wrote W base g v (num ns.length ++ nodesB 0 (ns.take k)) wr) : ByI W base g v ns bv (.int .i64 (k : Int)) wr := ⟨k, hk, rfl, hb, h⟩
theorem wrap_sub {a b : Nat} (h : b ≤ a) (ha : a < 18446744073709551616) : IntKind.u64.wrap ((a : Int) - (b : Int)) = ((a - b : Nat) : Int) := by
  have h1 : IntKind.u64.wrap ((a : Int) - (b : Int)) = ((a : Int) - (b : Int)) % 18446744073709551616 := by first | rfl | (simp [IntKind.wrap]; done) | (unfold IntKind.wrap; rfl)
  rw [h1]
  omega
set_option maxHeartbeats 8000000 in
theorem bytes_any (w : World) (b0 ga gm gp N : Nat) (F : PF) (vs : List (Nat × Value)) (ns : List (Nat × Nd)) (h : AR w b0 ga gm gp F vs ns N) (hl : (arenaB ns).length ≤ 1048576) (hns : ns.length ≤ 1000000) :
    Calls Try.prog 19 #[.pointer (some ⟨ga, 0, none⟩)] w (fun e w' => ∃ A n c, e = .returned (.slice A n c) ∧ Mine w' w.heap.size A n c (arenaB ns) ∧ Below w.heap.size w w') := by
  obtain ⟨g, hg⟩ : ∃ g, g = w.heap.size := ⟨_, rfl⟩
  have hlens : (num ns.length).length + (nodesB 0 ns).length ≤ 1048576 := by unfold arenaB at hl; rw [List.length_append] at hl; exact hl
  have hb1 : Below w.heap.size w (w.alloc (.cells #[.slice none 0 0] 85)) := (Below.refl _ _).alloc (Nat.le_refl _) _
  obtain ⟨w1, hw1⟩ : ∃ w1, w1 = w.alloc (.cells #[.slice none 0 0] 85) := ⟨_, rfl⟩
  rw [← hw1] at hb1
  have hW1 : Wtr w1 w.heap.size w.heap.size (.slice none 0 0) [] := ⟨by rw [hw1]; exact Go.heap_alloc_new _ _, World.ownsRow_nil _ _ _ _, by simp⟩
  have hA1 := h.below hb1
  have q0 : w1.cell? ⟨ga, 0, none⟩ = some (.map (some gm)) := by unfold World.cell?; rw [hA1.st]; rfl
  rw [hw1] at q0
  have hln := nodes_len hA1.nodes hA1.map.rise hA1.rise
  have HNUM := Lib.hid (wnum_any w1 w.heap.size w.heap.size ns.length (.slice none 0 0) [] (by omega) hW1 (Nat.zero_le _) hb1.size)
  have hNb : ns.length ≤ 1000000 := hns
  obtain ⟨NN, hNN⟩ : ∃ n, n = ns.length := ⟨_, rfl⟩
  rw [← hNN] at HNUM hNb hln
  have HA1 := Lib.hid hA1
  have HW1 := Lib.hid hW1
  have HB1 := Lib.hid hb1
  have HL := Lib.hid hlens
  have HN := Lib.hid hNN
  have HNS := Lib.hid hns
  have HEW := Lib.hid hw1
  have HLN := Lib.hid hln
  clear h hl hb1 hW1 hA1 hlens hns hln hg hNN hw1
  go_enter Try.func19, Try.ntmps19
  go_wp2_with (first
    | (at_len; (
        rw [← HEW.out];
        refine wpList_count w1 rfl _ 70 33 rfl Try.underlying70 gm vs rfl HA1.out.map ?_;
        rw [HLN.out]))
    | (go_at_call 44; (with_reducible refine (HNUM.out).mono ?_); rintro e w2 ⟨rfl, hwr⟩; go_loud (
        have HR2 := Lib.hid hwr;
        have HA2 := Lib.hid (HA1.out.wrote HW1.out hwr);
        have HIDS := Lib.hid (ids_any w2 _ ga gm gp _ F vs ns (HA1.out.wrote HW1.out hwr) (by have := HNS.out; omega));
        clear hwr))
    | (go_at_call 29; (with_reducible refine (HIDS.out).mono ?_); rintro e w3 ⟨iv, rfl, hoi, hb3⟩; go_loud (
        rw [List.length_map, ← HN.out] at hoi;
        obtain ⟨A3, c3, rfl⟩ := row_form hoi;
        have HOI := Lib.hid hoi;
        have HB3 := Lib.hid hb3;
        clear hoi hb3)))
  obtain ⟨v2, hwt2, hc2, hg2⟩ := HR2.out
  have HW3 := Lib.hid (hwt2.below HB3.out)
  have HC3 := Lib.hid (hc2.trans hg2 (Chg.of_below HB3.out w.heap.size v2.ownBlock))
  have HG3 := Lib.hid hg2
  have HA3 := Lib.hid (HA2.out.below HB3.out)
  have hbs3 : w.heap.size ≤ w3.heap.size := Nat.le_trans HB1.out.size HC3.out.size
  have HBS3 := Lib.hid hbs3
  have hst : ByI w3 w.heap.size w.heap.size v2 ns (.int .u64 0) (.int .i64 ((0 : Nat) : Int)) w3 := ByI.mk 0 (Nat.zero_le _) rfl ⟨v2, by have h9 := HW3.out; rw [HN.out] at h9; simpa [nodesB] using h9, Chg.refl _ _ _, Goes.refl _ _⟩
  have HST := Lib.hid hst
  clear hwt2 hc2 hg2 hst q0 hbs3
  go_loopw [4, 20] (fun bv iv wr => ByI w3 w.heap.size w.heap.size v2 ns bv iv wr) (fun _ iv _ => NN - (intOf iv).toNat)
  case atStart => exact HST.out
  case round =>
    obtain ⟨k, hk, rfl, rfl, hwk⟩ := hrel
    rw [← HN.out] at hk
    have HWK := Lib.hid hwk
    clear hwk
    by_cases hlt : k < NN
    · have hltI : (k : Int) < (NN : Int) := by omega
      obtain ⟨p, hp⟩ : ∃ p, ns[k]? = some p := by rw [HN.out] at hlt; exact ⟨_, List.getElem?_eq_getElem hlt⟩
      obtain ⟨id, n⟩ := p
      have hgl : getL ns id = some n := getL_of_mem HA1.out.rise (List.mem_of_getElem? hp)
      have hidc : (ids (ns.map (·.1)))[k]? = some (.int .u64 (id : Int)) := by unfold ids; rw [List.getElem?_map, List.getElem?_map, hp]; rfl
      have hoi : wr.ownsRow w2.heap.size 24 1 (.slice A3 NN c3) NN (ids (ns.map (·.1))) := ownsRow_at HOI.out fun j cs hj => (HWK.out.other HW3.out hj (by decide) (by decide)).trans hj.symm
      obtain ⟨ad, hA, _, hcx⟩ := (Lies.of_own hoi) k _ hidc
      subst hA
      obtain ⟨Ak, ck, hold, hos, hook, hhas⟩ := HA1.out.nodes.get id
      have hid : id < 18446744073709551616 := by
        have hhl : hasL ns id = true := by unfold hasL; rw [hgl]; rfl
        rw [hhl] at hhas
        obtain ⟨q, hq⟩ := Option.isSome_iff_exists.1 hhas
        exact HA1.out.map.small _ (getL_mem hq)
      obtain ⟨bf, hbf⟩ : ∃ bf, bf = lastId 0 (ns.take k) := ⟨_, rfl⟩
      have hble : bf ≤ id := by rw [hbf]; exact lastId_le _ _ _ (Nat.zero_le _) (take_lt HA1.out.rise hp)
      have hwsub := wrap_sub hble hid
      have hk1e : ns.take (k + 1) = ns.take k ++ [(id, n)] := by
        have h1 := (List.getElem?_eq_some_iff.1 hp)
        rw [List.take_succ_eq_append_getElem h1.1, h1.2]
      have hlen : (num NN).length + (nodesB 0 (ns.take k)).length + (num (id - bf)).length + (nodeB n).length ≤ 1048576 := by
        have h1 := nodesB_take ns (k + 1)
        rw [hk1e, nodesB_snoc, List.length_append, List.length_append] at h1
        have h2 := HL.out
        rw [← HN.out] at h2
        dsimp only at h1
        rw [← hbf] at h1
        omega
      obtain ⟨vk, hwv, hcv, hgv⟩ := HWK.out
      rw [← hbf]
      have HNUM2 := Lib.hid (wnum_any wr w.heap.size w.heap.size (id - bf) vk _ (by omega) hwv (by rw [List.length_append, ← HN.out]; omega) (Nat.le_trans HBS3.out hcv.size))
      have hAr := HA3.out.wrote HW3.out HWK.out
      have HCV := Lib.hid hcv
      have HGV := Lib.hid hgv
      have HK1 := Lib.hid hk1e
      have HBF := Lib.hid hbf
      have HLEN := Lib.hid hlen
      have HGL := Lib.hid hgl
      have HID := Lib.hid hid
      clear hp hgl hidc hoi hold hos hook hhas hble hk1e hlen hwv hcv hgv hbf hAr
      go_wp2_with (first
        | (go_at_call 44; (with_reducible refine (HNUM2.out).mono ?_); rintro e w6 ⟨rfl, hwr⟩; go_loud (
            have hwr2 := Wrote.and HCV.out HGV.out hwr;
            have hA6 := HA3.out.wrote HW3.out hwr2;
            have q1 : w6.cell? ⟨ga, 0, none⟩ = some (.map (some gm)) := (by unfold World.cell?; rw [hA6.st]; rfl);
            obtain ⟨Ak, ck, hold, hos, hook, hhas⟩ := hA6.nodes.get id;
            rw [HGL.out] at hold hos hook;
            have l1 := run_look 70 33 Try.underlying70 _ (zeroNode _) hA6.map id HID.out _ hold;
            obtain ⟨v6, hw6, hc6, hg6⟩ := hwr2;
            have hwrt := write_any w6 w.heap.size w.heap.size v6 _ n Ak ck hw6 hos hook (by have := HLEN.out; rw [List.length_append, List.length_append, List.length_append, ← HN.out]; omega) (Nat.le_trans HBS3.out hc6.size);
            dsimp only [Option.getD] at l1;
            unfold ndV at l1 hwrt;
            have HWRT := Lib.hid hwrt;
            have HC6 := Lib.hid hc6;
            have HG6 := Lib.hid hg6;
            clear hwr hA6 hold hos hook hhas hw6 hc6 hg6 hwrt))
        | (go_at_call 45; (with_reducible refine (HWRT.out).mono ?_); rintro e w7 ⟨rfl, hwr⟩; go_loud (
            have HWR7 := Lib.hid (Wrote.and HC6.out HG6.out hwr);
            clear hwr)))
      have hfin := ByI.mk (W := w3) (base := w.heap.size) (g := w.heap.size) (v := v2) (ns := ns) (k + 1) (bv := .int .u64 (id : Int)) (by have := HN.out; omega) (by rw [HK1.out, lastId_snoc]) (by rw [HK1.out, nodesB_snoc]; have h9 := HWR7.out; rw [HBF.out] at h9; simpa [List.append_assoc] using h9)
      first
        | (go_roundw; (case rel => exact hfin); (case measure => simp [intOf]; omega))
        | (refine ⟨⟨_, _, _, _, _, _, _, _, _, _, _, _, _, _, _, _, _, hfin, rfl⟩, ?measure⟩; (case measure => simp [intOf]; omega))
        | (refine ⟨hfin, ?measure⟩; (case measure => simp [intOf]; omega))
    · have hltI : ¬ (k : Int) < (NN : Int) := by omega
      have hkn : k = NN := by omega
      obtain ⟨vk, hwv, hcv, hgv⟩ := HWK.out
      have hfull : ns.take k = ns := List.take_of_length_le (by rw [← HN.out]; omega)
      rw [hfull] at hwv
      have hby := wbytes_any wr w.heap.size w.heap.size vk _ hwv (by rw [List.length_append]; exact HL.out)
      have hbw : Below w.heap.size w wr := by
        have h1 : Chg w1 wr w.heap.size none := HC3.out.trans HG3.out hcv
        exact h1.below HB1.out HB1.out.size (Nat.le_refl _) (fun k e => by cases e)
      have HBY := Lib.hid hby
      have HBW := Lib.hid hbw
      clear hwv hcv hgv hfull hby hbw
      go_wp2_with (go_at_call 46; (with_reducible refine (HBY.out).mono ?_); rintro e w8 ⟨A8, n8, c8, rfl, hm8, hb8⟩; go_loud (
        have HM8 := Lib.hid hm8;
        have HB8 := Lib.hid hb8;
        clear hm8 hb8))
      go_ret
      exact ⟨A8, n8, c8, rfl, HM8.out.lower HBW.out.size, HBW.out.trans (HB8.out.mono HBW.out.size)⟩
end Go.Proofs.Ytdphpjlhkamadaa
