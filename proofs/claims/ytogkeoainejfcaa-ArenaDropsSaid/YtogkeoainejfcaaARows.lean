/- Contracts: the numbers of an arena's nodes; all that is in an arena, as a list. -/
import Derived.Test.YtogkeoainejfcaaAIds
import Derived.Test.YtogkeoainejfcaaARPut
import Derived.Test.YtogkeoainejfcaaAAsk
namespace Go.Proofs.Ytogkeoainejfcaa
open Go.RowKit Go.Shelf
set_option linter.unusedSimpArgs false
set_option linter.unusedVariables false
set_option maxRecDepth 100000
attribute [local go_sem] Oper.semAt_some undef
theorem nodes_keys {w : World} {vs : List (Nat × Value)} {ns : List (Nat × Nd)} (h : NodesV w vs ns) (hv : Rise vs) (hn : Rise ns) : vs.map (·.1) = ns.map (·.1) := by
  have h1 : (vs.map (·.1)).Pairwise (· < ·) := by unfold Rise at hv; rw [List.pairwise_map]; exact hv
  have h2 : (ns.map (·.1)).Pairwise (· < ·) := by unfold Rise at hn; rw [List.pairwise_map]; exact hn
  have hp : (vs.map (·.1)).Perm (ns.map (·.1)) := (List.perm_ext_iff_of_nodup (rise_nodup hv) (rise_nodup hn)).2 fun k => by
    rw [← hasL_mem, ← hasL_mem]
    obtain ⟨A, c, hold, hos, hook, hhas⟩ := h.get k
    rw [hhas]
  exact hp.eq_of_pairwise (fun a b _ _ h3 h4 => absurd h3 (by omega)) h1 h2
/-- What is told of the numbers. -/
def IdsR (w : World) (ks : List Nat) (e : Ending) (w' : World) : Prop := ∃ v : Value, e = .returned v ∧ w'.ownsRow w.heap.size 24 1 v ks.length (ids ks) ∧ Below w.heap.size w w'
theorem ids_any (w : World) (base ga gm gp N : Nat) (F : PF) (vs : List (Nat × Value)) (ns : List (Nat × Nd)) (h : AR w base ga gm gp F vs ns N) (hns : ns.length ≤ 1000000000) :
    Calls Try.prog 29 #[.pointer (some ⟨ga, 0, none⟩)] w (IdsR w (ns.map (·.1))) := by
  have q0 : w.cell? ⟨ga, 0, none⟩ = some (.map (some gm)) := by unfold World.cell?; rw [h.st]; rfl
  have hl := nodes_len h.nodes h.map.rise h.rise
  have hk := nodes_keys h.nodes h.map.rise h.rise
  have hb0 : Below w.heap.size w (w.alloc (.cells #[.map (some gm)] 70)) := (Below.refl _ _).alloc (Nat.le_refl _) _
  have HS := Lib.hid (sorted_any w.heap.size gm vs (w.alloc (.cells #[.map (some gm)] 70)) (by simp) (by unfold World.cell?; rw [Go.heap_alloc_new]; rfl) (h.map.at_ (hb0.block gm h.map.lt)) (by omega))
  have HK := fun (x : World) => Lib.hid (keys_any x (some gm))
  have HL := Lib.hid hl
  have HE := Lib.hid hk
  have HB := Lib.hid hb0
  clear h hl hk hb0
  go_enter Try.func29, Try.ntmps29
  go_wp2_with (first
    | (go_at_call 59; refine (HK _).out.mono ?_; rintro e w1 ⟨rfl, rfl⟩)
    | (go_at_call 58; refine HS.out.mono ?_; rintro e w2 ⟨v, rfl, ho, hb⟩; have HO := Lib.hid ho; have HB2 := Lib.hid hb; clear ho hb))
  go_ret
  refine ⟨v, rfl, ?_, HB.out.trans (HB2.out.mono HB.out.size)⟩
  have h5 := HO.out
  rw [HE.out] at h5
  rw [List.length_map, ← HL.out]
  refine ⟨h5.1, ?_⟩
  rcases h5.2 with e | ⟨g, cap, cur, e, h1, h2⟩
  · exact .inl e
  · exact .inr ⟨g, cap, cur, e, Nat.le_trans HB.out.size h1, h2⟩
/-- What is told of all that is in an arena. -/
def RowsR (w : World) (ns : List (Nat × Nd)) (e : Ending) (w' : World) : Prop := ∃ (v : Value) (xs : XL), e = .returned v ∧ XR w' w.heap.size v xs ∧ xNs xs = ns ∧ Below w.heap.size w w'
theorem xNs_snoc (xs : XL) (id : Nat) (v : Value) (n : Nd) : xNs (xs ++ [(id, (v, n))]) = xNs xs ++ [(id, n)] := by unfold xNs mapL; rw [List.map_append]; rfl
theorem xNs_len (xs : XL) : (xNs xs).length = xs.length := by unfold xNs mapL; rw [List.length_map]
/-- How far the list has come. -/
def RowsI (w w1 : World) (ns : List (Nat × Nd)) (ov iv : Value) (wr : World) : Prop :=
  ∃ (k : Nat) (out : XL), k ≤ ns.length ∧ iv = .int .i64 (k : Int) ∧ XR wr w1.heap.size ov out ∧ xNs out = ns.take k ∧ Below w.heap.size w wr ∧ Below w1.heap.size w1 wr
theorem RowsI.mk {w w1 wr : World} {ns : List (Nat × Nd)} {ov : Value} (k : Nat) (out : XL) (h1 : k ≤ ns.length) (h2 : XR wr w1.heap.size ov out) (h3 : xNs out = ns.take k) (h4 : Below w.heap.size w wr) (h5 : Below w1.heap.size w1 wr) : RowsI w w1 ns ov (.int .i64 (k : Int)) wr := ⟨k, out, h1, rfl, h2, h3, h4, h5⟩
set_option maxHeartbeats 4000000 in
theorem rows_any (w : World) (base ga gm gp N : Nat) (F : PF) (vs : List (Nat × Value)) (ns : List (Nat × Nd)) (h : AR w base ga gm gp F vs ns N) (hns : ns.length ≤ 1000000) :
    Calls Try.prog 15 #[.pointer (some ⟨ga, 0, none⟩)] w (RowsR w ns) := by
  obtain ⟨i7, hi7, hz7, hs7, hb7⟩ := info_parts infoRow
  have HID := Lib.hid (ids_any w base ga gm gp N F vs ns h (by omega))
  have HH := Lib.hid h
  have HR := Lib.hid h.rise
  have HNS := Lib.hid hns
  clear h hns
  go_enter Try.func15, Try.ntmps15
  go_wp2_with fail
  refine HID.out.mono ?_
  rintro e w1 ⟨v, rfl, ho, hb⟩
  rw [List.length_map] at ho
  obtain ⟨A1, c1, rfl⟩ := row_form ho
  obtain ⟨NN, hNN⟩ : ∃ n, n = ns.length := ⟨_, rfl⟩
  rw [← hNN] at ho ⊢
  have HO := Lib.hid ho
  have HB := Lib.hid hb
  have HN := Lib.hid hNN
  have hNb : NN ≤ 1000000 := by rw [hNN]; exact HNS.out
  clear ho hb hNN HID
  go_wp2_with fail
  go_loopw [3, 11] (fun ov iv wr => RowsI w w1 ns ov iv wr) (fun _ iv _ => NN - (intOf iv).toNat)
  case atStart => exact RowsI.mk 0 [] (Nat.zero_le _) ⟨World.ownsRow_nil _ _ _ _, by simp, by simp⟩ rfl HB.out (Below.refl _ _)
  case round =>
    obtain ⟨k, out, hk, rfl, hxo, hxn, hb, hbw⟩ := hrel
    rw [← HN.out] at hk
    obtain ⟨Ao, co, rfl⟩ := row_form hxo.own
    have hol : out.length = k := by
      have h1 := congrArg List.length hxn
      rw [xNs_len, List.length_take, ← HN.out] at h1
      omega
    have HXO := Lib.hid hxo
    have HXN := Lib.hid hxn
    have HBE := Lib.hid hb
    have HBW := Lib.hid hbw
    have HOL := Lib.hid hol
    rw [hol]
    clear hxo hxn hb hbw hol
    by_cases hlt : k < NN
    · have hltI : (k : Int) < (NN : Int) := by omega
      obtain ⟨p, hp⟩ : ∃ p, ns[k]? = some p := by rw [HN.out] at hlt; exact ⟨_, List.getElem?_eq_getElem hlt⟩
      obtain ⟨id, n⟩ := p
      have hgl : getL ns id = some n := getL_of_mem HR.out (List.mem_of_getElem? hp)
      have hhl : hasL ns id = true := by unfold hasL; rw [hgl]; rfl
      have hidc : (ids (ns.map (·.1)))[k]? = some (.int .u64 (id : Int)) := by unfold ids; rw [List.getElem?_map, List.getElem?_map, hp]; rfl
      obtain ⟨ad, hA, hadb, hcx⟩ := (Lies.of_own HO.out) k _ hidc
      subst hA
      have hcw := (HBW.out.cell (p := ad.add k) (by rw [addr_add_block]; exact hadb)).trans hcx
      have hid : id < 18446744073709551616 := by
        have hv := HH.out.map.small
        obtain ⟨Aq, cq, hold, hos, hook, hhas⟩ := HH.out.nodes.get id
        rw [hhl] at hhas
        obtain ⟨q, hq⟩ := Option.isSome_iff_exists.1 hhas
        exact hv _ (getL_mem hq)
      have hget := get_any wr base ga gm gp id N F vs ns (HH.out.below HBE.out) hid
      rw [hgl, hhl] at hget
      have HG := Lib.hid hget
      have HP := Lib.hid hp
      have hk1e : ns.take (k + 1) = ns.take k ++ [(id, n)] := by
        have h1 := (List.getElem?_eq_some_iff.1 hp)
        rw [List.take_succ_eq_append_getElem h1.1, h1.2]
      have HK1 := Lib.hid hk1e
      clear hp hgl hhl hidc hcx hget hadb hk1e
      have hxw : w.heap.size ≤ wr.heap.size := HBE.out.size
      go_wp2_with (first
        | (go_at_call 12; go_loud (
            (with_reducible refine (HG.out).mono ?_);
            rintro e w2 ⟨A2, c2, rfl, hn2, hfr2, hb2⟩;
            have hn2' : NodeV w2 (ndV n (.slice A2 n.kids.length c2)) n := hn2;
            have HN2 := Lib.hid hn2';
            have HB2 := Lib.hid hb2;
            have HBX := Lib.hid (Go.heap_alloc_new w2 (.cells #[.int .u8 (n.kind : Int), .string n.name, .int .i64 n.num, .int .u8 (n.typ : Int), .int .u64 (n.ref : Int), .slice A2 n.kids.length c2] 33));
            obtain ⟨m0, m1, m2, m3, m4, m5, _⟩ := box_cells HBX.out;
            unfold ndV;
            clear hn2 hn2' hfr2 hb2))
        | (at_builtin; go_loud (
            have hb3 : Below w2.heap.size w2 (w2.alloc (.cells #[.int .u8 (n.kind : Int), .string n.name, .int .i64 n.num, .int .u8 (n.typ : Int), .int .u64 (n.ref : Int), .slice A2 n.kids.length c2] 33)) := (Below.refl _ _).alloc (Nat.le_refl _) _;
            have hxo3 := (HXO.out.below (HB2.out.trans (hb3.mono HB2.out.size)));
            have hnv3 := HN2.out.below hb3;
            have hbe3 := HBE.out.trans ((HB2.out.trans (hb3.mono HB2.out.size)).mono HBE.out.size);
            have hbw3 := HBW.out.trans ((HB2.out.trans (hb3.mono HB2.out.size)).mono HBW.out.size);
            have hs3 : (w2.alloc (.cells #[.int .u8 (n.kind : Int), .string n.name, .int .i64 n.num, .int .u8 (n.typ : Int), .int .u64 (n.ref : Int), .slice A2 n.kids.length c2] 33)).heap.size = w2.heap.size + 1 := by simp;
            obtain ⟨W3, hW3⟩ : ∃ W3, W3 = w2.alloc (.cells #[.int .u8 (n.kind : Int), .string n.name, .int .i64 n.num, .int .u8 (n.typ : Int), .int .u64 (n.ref : Int), .slice A2 n.kids.length c2] 33) := ⟨_, rfl⟩;
            rw [← hW3] at hxo3 hnv3 hbe3 hbw3 hs3 ⊢;
            have hal : Below W3.heap.size W3 (W3.alloc (.cells #[.int .u64 (id : Int), .int .u8 (n.kind : Int), .string n.name, .int .i64 n.num, .int .u8 (n.typ : Int), .int .u64 (n.ref : Int), .slice A2 n.kids.length c2] 69)) := (Below.refl _ _).alloc (Nat.le_refl _) _;
            have hxr : XR (W3.alloc (.cells #[.int .u64 (id : Int), .int .u8 (n.kind : Int), .string n.name, .int .i64 n.num, .int .u8 (n.typ : Int), .int .u64 (n.ref : Int), .slice A2 n.kids.length c2] 69)) w1.heap.size (.slice Ao k co) out := (by have h9 := hxo3.below hal; rw [HOL.out] at h9; exact h9);
            refine wpList_append_own_at _ rfl _ _ 22 rfl w1.heap.size 69 i7 (.agg #[.int .u64 0, .int .u8 0, .string ⟨#[]⟩, .int .i64 0, .int .u8 0, .int .u64 0, .slice none 0 0]) 7 80 Try.underlying22 hi7 hz7 hs7 hb7 rfl (by decide) (.slice Ao k co) k (xCells out) rfl (by have h9 := hxr.own; rw [HOL.out] at h9; exact h9) ⟨w2.heap.size + 1, 0, none⟩ 1 1 [.int .u64 (id : Int), .int .u8 (n.kind : Int), .string n.name, .int .i64 n.num, .int .u8 (n.typ : Int), .int .u64 (n.ref : Int), .slice A2 n.kids.length c2] rfl rfl (by have h9 := row_lie W3 (cs := [.int .u64 (id : Int), .int .u8 (n.kind : Int), .string n.name, .int .i64 n.num, .int .u8 (n.typ : Int), .int .u64 (n.ref : Int), .slice A2 n.kids.length c2]); rw [hs3] at h9; simpa using h9) found_one (by unfold maxLen; omega) (by omega) (by have := hal.size; have := hbw3.size; omega) ?_;
            intro v' w' hown' hgrow hnil hloc;
            have hlist : [.int .u64 (id : Int), .int .u8 (n.kind : Int), .string n.name, .int .i64 n.num, .int .u8 (n.typ : Int), .int .u64 (n.ref : Int), .slice A2 n.kids.length c2] = (.int .u64 (id : Int) :: ndCells (ndV n (.slice A2 n.kids.length c2))) := rfl;
            rw [hlist] at hown';
            have hxr2 := hxr.more (id := id) (val := ndV n (.slice A2 n.kids.length c2)) (nd := n) hgrow (by rw [HOL.out]; exact hown') (hnv3.below hal) hid;
            have hba := (hbe3.trans (hal.mono hbe3.size)).grown hgrow (by have := hal.size; have := hbe3.size; omega) (fun q e => by have h1 := (World.ownsRow.lt hxr.own q e).1; have h2 := HB.out.size; omega);
            have hbc := (hbw3.trans (hal.mono hbw3.size)).grown hgrow (by have := hal.size; have := hbw3.size; omega) (fun q e => (World.ownsRow.lt hxr.own q e).1);
            obtain ⟨A9, c9, rfl⟩ := row_form hown';
            have HXR := Lib.hid hxr2;
            have HBA := Lib.hid hba;
            have HBC := Lib.hid hbc;
            clear hown' hgrow hnil hloc hxr hxr2 hba hbc hal hxo3 hnv3 hbe3 hbw3 hlist)))
      have hPI := RowsI.mk (w := w) (w1 := w1) (ns := ns) (k + 1) (out ++ [(id, (ndV n (.slice A2 n.kids.length c2), n))]) (by rw [← HN.out]; omega) HXR.out (by rw [xNs_snoc, HXN.out, HK1.out]) HBA.out HBC.out
      go_roundw
      case rel =>
        rw [show ((k : Int) + 1) = ((k + 1 : Nat) : Int) by omega]
        exact hPI
      case measure => simp [intOf]; omega
    · have hltI : ¬ (k : Int) < (NN : Int) := by omega
      obtain rfl : k = NN := by omega
      go_wp2_with fail
      go_ret
      refine ⟨_, out, rfl, (by have h9 := HXO.out.lower HB.out.size; rw [HOL.out] at h9; exact h9), ?_, HBE.out⟩
      rw [HXN.out, HN.out, List.take_length]
end Go.Proofs.Ytogkeoainejfcaa
