/- The law ArenaDrops, walked. -/
import Derived.Test.YtogkeoainejfcaaADropsM
import Derived.Test.YtogkeoainejfcaaR4
import Derived.Deep.RegionHeldLaw
namespace Go.Proofs.Ytogkeoainejfcaa
open Go.RowKit Go.Shelf
set_option linter.unusedSimpArgs false
set_option linter.unusedVariables false
set_option maxRecDepth 100000
attribute [local go_sem] Oper.semAt_some undef
/-- The first loop: what was told is changed. -/
def D1I (w4 : World) (g9 : Nat) (box : Array Value) (A : Option Addr) (kl c : Nat) (i : Value) (wr : World) : Prop :=
  ∃ (k : Nat) (K : List Nat), k ≤ kl ∧ i = .int .i64 (k : Int) ∧ wr.ownsRow w4.heap.size 24 1 (.slice A kl c) kl (ids K) ∧ wr.heap[g9]? = some (.cells box 33 (0, 0)) ∧ Below w4.heap.size w4 wr ∧ ∀ y ∈ K, y < 18446744073709551616
theorem D1I.mk {w4 wr : World} {g9 : Nat} {box : Array Value} {A : Option Addr} {kl c : Nat} (k : Nat) (K : List Nat) (h1 : k ≤ kl) (h2 : wr.ownsRow w4.heap.size 24 1 (.slice A kl c) kl (ids K)) (h3 : wr.heap[g9]? = some (.cells box 33 (0, 0))) (h4 : Below w4.heap.size w4 wr) (h5 : ∀ y ∈ K, y < 18446744073709551616) : D1I w4 g9 box A kl c (.int .i64 (k : Int)) wr := ⟨k, K, h1, rfl, h2, h3, h4, h5⟩
/-- The second loop: the first number is one more. -/
def D2I (w8 : World) (g9 g12 : Nat) (box box2 : Array Value) (K0 : List Nat) (A : Option Addr) (kl c : Nat) (i : Value) (wr : World) : Prop :=
  ∃ (k : Nat) (K : List Nat), k ≤ kl ∧ i = .int .i64 (k : Int) ∧ wr.ownsRow w8.heap.size 24 1 (.slice A kl c) kl (ids K) ∧ wr.heap[g12]? = some (.cells box2 33 (0, 0)) ∧ Below w8.heap.size w8 wr ∧ (k = 0 → K = K0) ∧ (0 < k → ∀ y, K0[0]? = some y → K[0]? = some ((y + 1) % 18446744073709551616))
theorem D2I.mk {w8 wr : World} {g9 g12 : Nat} {box box2 : Array Value} {K0 : List Nat} {A : Option Addr} {kl c : Nat} (k : Nat) (K : List Nat) (h1 : k ≤ kl) (h2 : wr.ownsRow w8.heap.size 24 1 (.slice A kl c) kl (ids K)) (h3 : wr.heap[g12]? = some (.cells box2 33 (0, 0))) (h4 : Below w8.heap.size w8 wr) (h5 : k = 0 → K = K0) (h6 : 0 < k → ∀ y, K0[0]? = some y → K[0]? = some ((y + 1) % 18446744073709551616)) : D2I w8 g9 g12 box box2 K0 A kl c (.int .i64 (k : Int)) wr := ⟨k, K, h1, rfl, h2, h3, h4, h5, h6⟩
set_option maxHeartbeats 16000000 in
theorem arenaDrops_walk (w : World) (A : Option Addr) (N c : Nat) (rs : List (Nat × Nd)) (id : Nat) (hid : id < 18446744073709551616) (h : RowsIn w w.heap.size A N rs) :
    Calls Try.prog 3 #[.slice A N c, .int .u64 (id : Int)] w (fun e w' => e = .returned (.bool true) ∧ Below w.heap.size w w') := by
  have HAW := Lib.hid (awake_true w)
  have HH := Lib.hid h
  have HID := Lib.hid hid
  clear h hid
  go_enter Try.func3, Try.ntmps3
  go_wp2_with (first
    | (go_at_call 8; (with_reducible refine (HAW.out).mono ?_); rintro e w1 ⟨rfl, hb1⟩; go_loud (
        have HL := Lib.hid (lay_any w1 A N c rs ((HH.out.below hb1).up hb1.size));
        have HBW1 := Lib.hid hb1;
        clear hb1))
    | (go_at_call 9; (with_reducible refine (HL.out).mono ?_); rintro e w2 ⟨b0, ga, gm, gp, xv, xs, F, vs, rfl, hb0, hxs, hns, hA, hfw, hb2⟩; go_loud (
        obtain ⟨Ax, cx, rfl⟩ := row_form hxs.own;
        obtain ⟨nx, hnx⟩ : ∃ nx, nx = xs.length := ⟨_, rfl⟩;
        rw [← hnx] at hxs ⊢;
        obtain ⟨ns, hnsd⟩ : ∃ ns, ns = layL rs := ⟨_, rfl⟩;
        rw [← hnsd] at hns hA hfw;
        have hsum := hfw.sum;
        have hlen := hfw.len;
        have HCP := Lib.hid (copy_any w2 _ ga gm gp _ F vs ns hA (by omega) (by omega));
        have HXS := Lib.hid hxs;
        have HNS := Lib.hid hns;
        have HA2 := Lib.hid hA;
        have HR := Lib.hid hfw.rise;
        have HSUM := Lib.hid hsum;
        have HLEN := Lib.hid hlen;
        have HNX := Lib.hid hnx;
        have HBW2 := Lib.hid (HBW1.out.trans (hb2.mono HBW1.out.size));
        have HLOW := Lib.hid (Nat.le_trans HBW1.out.size hb0);
        clear hxs hns hA hfw hnx hb2 hb0 hsum hlen hnsd))
    | (go_at_call 10; (with_reducible refine (HCP.out).mono ?_); rintro e w3 ⟨gc, gcm, gcp, Fc, vsc, rfl, hAc, hb3⟩; go_loud (
        have HWK := Lib.hid (rwalk_any w3 _ nx cx id Ax xs ns (HXS.out.below hb3) HNX.out (by rw [HNX.out, ← xNs_len, HNS.out]; have := HLEN.out; omega) HNS.out HR.out (by have := HSUM.out; omega));
        have HAC3 := Lib.hid hAc;
        have HB23 := Lib.hid hb3;
        clear hAc hb3))
    | (go_at_call 11; (with_reducible refine (HWK.out).mono ?_); rintro e w4 ⟨wv, rfl, hwv, hb4⟩; go_loud (
        obtain ⟨L, hL⟩ : ∃ L, L = walkL ns id := ⟨_, rfl⟩;
        rw [← hL] at hwv;
        obtain ⟨ln, hln⟩ : ∃ ln, ln = L.length := ⟨_, rfl⟩;
        obtain ⟨Aw, cw, rfl⟩ := row_form hwv;
        rw [← hln] at hwv ⊢;
        have hget := get_own w4 _ gc gcm gcp id _ Fc vsc _ (HAC3.out.below hb4) HID.out;
        obtain ⟨nd, hnd⟩ : ∃ nd, nd = (getL ns id).getD zeroNd := ⟨_, rfl⟩;
        rw [← hnd] at hget;
        obtain ⟨ok, hok⟩ : ∃ ok, ok = hasL ns id := ⟨_, rfl⟩;
        rw [← hok] at hget;
        unfold GetO ndV at hget;
        have HGET := Lib.hid hget;
        have hkid : nd.kids.length ≤ 1000000 := (by rw [hnd]; have := HSUM.out; have h2 := sumU_kids ns id; omega);
        have HKID := Lib.hid hkid;
        have hsm : ∀ y ∈ nd.kids, y < 18446744073709551616 := (by obtain ⟨_, _, _, hos, _⟩ := HAC3.out.nodes.get id; rw [hnd]; exact hos.small);
        have HSM := Lib.hid hsm;
        have HWV := Lib.hid hwv;
        have HLD := Lib.hid hL;
        have HLN := Lib.hid hln;
        have HOKD := Lib.hid hok;
        have HB34 := Lib.hid hb4;
        clear hwv hL hln hok hnd hget hb4 hkid hsm))
    | (go_at_call 12; (with_reducible refine (HGET.out).mono ?_); rintro e w5 ⟨A6, c6, rfl, ho6, hok6, hb5⟩; go_loud (
        obtain ⟨kl, hkl⟩ : ∃ kl, kl = nd.kids.length := ⟨_, rfl⟩;
        rw [← hkl] at ho6 ⊢;
        have hbx : (w5.alloc (.cells #[.int .u8 (nd.kind : Int), .string nd.name, .int .i64 nd.num, .int .u8 (nd.typ : Int), .int .u64 (nd.ref : Int), .slice A6 kl c6] 33)).heap[w5.heap.size]? = some (.cells #[.int .u8 (nd.kind : Int), .string nd.name, .int .i64 nd.num, .int .u8 (nd.typ : Int), .int .u64 (nd.ref : Int), .slice A6 kl c6] 33 (0, 0)) := Go.heap_alloc_new _ _;
        obtain ⟨⟨e0, e1, e2, e3, e4, e5⟩, _⟩ := box_all hbx;
        have HO6 := Lib.hid ho6;
        have HOK6 := Lib.hid hok6;
        have HB45 := Lib.hid hb5;
        have HBX := Lib.hid hbx;
        have HKL := Lib.hid hkl;
        clear ho6 hok6 hb5 hbx hkl))
    )
  obtain ⟨g9, hg9⟩ : ∃ g9, g9 = w5.heap.size := ⟨_, rfl⟩
  have hst : D1I w4 g9 (#[.int .u8 (nd.kind : Int), .string nd.name, .int .i64 nd.num, .int .u8 (nd.typ : Int), .int .u64 (nd.ref : Int), .slice A6 kl c6]) A6 kl c6 (.int .i64 ((0 : Nat) : Int)) (w5.alloc (.cells (#[.int .u8 (nd.kind : Int), .string nd.name, .int .i64 nd.num, .int .u8 (nd.typ : Int), .int .u64 (nd.ref : Int), .slice A6 kl c6]) 33)) := D1I.mk 0 nd.kids (Nat.zero_le _) (own_below HO6.out ((Below.refl _ _).alloc (Nat.le_refl _) _)) (by rw [hg9]; exact HBX.out) (HB45.out.alloc HB45.out.size _) HSM.out
  have HST := Lib.hid hst
  have HG9 := Lib.hid hg9
  rw [← hg9]
  clear hst hg9 e0 e1 e2 e3 e4 e5
  have hkb : kl ≤ 1000000 := by rw [HKL.out]; exact HKID.out
  go_loopw [35] (fun i wr => D1I w4 g9 (#[.int .u8 (nd.kind : Int), .string nd.name, .int .i64 nd.num, .int .u8 (nd.typ : Int), .int .u64 (nd.ref : Int), .slice A6 kl c6]) A6 kl c6 i wr) (fun i _ => kl - (intOf i).toNat)
  case atStart => exact HST.out
  case round =>
    obtain ⟨k, K, hk, rfl, hoK, hbx, hbK, hsm⟩ := hrel
    obtain ⟨_, _, _, _, _, e5, _⟩ := box_cells hbx
    by_cases hlt : k < kl
    · have hltI : (k : Int) < (kl : Int) := by omega
      obtain ⟨g6, hA6, hg6, ⟨cs6, hcs6⟩, ⟨z, hz, hcz⟩, hfz, hkc, hset⟩ := own_set hoK hlt (((K.getD k 0) + 7) % 18446744073709551616)
      have hzg : K.getD k 0 = z := by rw [List.getD_eq_getElem?_getD, hz]; rfl
      rw [hzg] at hset
      subst hA6
      have hne : g9 ≠ g6 := fun e => by
        rw [e, hcs6] at hbx
        injection hbx with hbx
        injection hbx with _ h2 _
        revert h2
        decide
      have HSET := Lib.hid hset
      have HBXK := Lib.hid hbx
      have HBK := Lib.hid hbK
      have HSMK := Lib.hid hsm
      have HNE := Lib.hid hne
      have HG6 := Lib.hid hg6
      clear hset hbx hbK hsm hne hg6 hoK hcs6 hzg
      go_wp2_with fail
      have hfin := D1I.mk (w4 := w4) (g9 := g9) (box := #[.int .u8 (nd.kind : Int), .string nd.name, .int .i64 nd.num, .int .u8 (nd.typ : Int), .int .u64 (nd.ref : Int), .slice (some ⟨g6, 0, none⟩) kl c6]) (A := some ⟨g6, 0, none⟩) (c := c6) (k + 1) (K.set k ((z + 7) % 18446744073709551616)) (by omega) HSET.out ((heap_setCell_other _ ⟨g6, k, none⟩ g9 _ HNE.out).trans HBXK.out) (HBK.out.setCell (p := ⟨g6, k, none⟩) HG6.out _) (fun y hy => by
        rcases List.mem_or_eq_of_mem_set hy with hy | hy
        · exact HSMK.out y hy
        · rw [hy]; omega)
      rw [show ((k + 1 : Nat) : Int) = (k : Int) + 1 by omega] at hfin
      have hw2 : IntKind.u64.wrap ((z : Int) + 7) = (((z + 7) % 18446744073709551616 : Nat) : Int) := wrap_add z 7
      rw [hw2]
      exact ⟨hfin, by simp [intOf]; omega⟩
    · have hltI : ¬ (k : Int) < (kl : Int) := by omega
      have HOK1 := Lib.hid hoK
      have HBXK := Lib.hid hbx
      have HBK := Lib.hid hbK
      have HSMK := Lib.hid hsm
      clear hoK hbx hbK hsm e5
      obtain ⟨w6, hw6⟩ : ∃ w6, w6 = wr := ⟨_, rfl⟩
      subst hw6
      have hb26 : Below w2.heap.size w2 w6 := (HB23.out.trans (HB34.out.mono HB23.out.size)).trans (HBK.out.mono (Nat.le_trans HB23.out.size HB34.out.size))
      have hb36 : Below w3.heap.size w3 w6 := HB34.out.trans (HBK.out.mono HB34.out.size)
      have hA6 := HA2.out.below hb26
      have hAC6 := HAC3.out.below hb36
      have hdr := drop_any w6 _ ga gm gp id _ F vs ns hA6 HID.out (by have := HSUM.out; omega) (by have := HLEN.out; omega)
      rw [← HLD.out] at hdr
      have HDR := Lib.hid hdr
      have HA6 := Lib.hid hA6
      have HAC6 := Lib.hid hAC6
      have HXS6 := Lib.hid (HXS.out.below hb26)
      have HWV6 := Lib.hid (own_below HWV.out HBK.out)
      have HBW6 := Lib.hid (HBW2.out.trans (hb26.mono HBW2.out.size))
      have HB26 := Lib.hid hb26
      clear hb26 hb36 hA6 hAC6 hdr hk
      go_wp2_with (first
        | (go_at_call 13; (with_reducible refine (HDR.out).mono ?_); rintro e w7 ⟨rfl, F7, vs7, hA7, hT7, hO7⟩; go_loud (
        rw [← HLN.out];
        obtain ⟨n7, hn7⟩ : ∃ n7, n7 = dropL ns L := ⟨_, rfl⟩;
        rw [← hn7] at hA7;
        have hn7l : n7.length ≤ 31 := (by rw [hn7]; have := dropL_len L ns; have := HLEN.out; omega);
        have HR7 := Lib.hid (rows_any w7 _ ga gm gp _ F7 vs7 n7 hA7 (by omega));
        have HAC7 := Lib.hid (HAC6.out.keep hT7 fun j hj => copy_far HA2.out HA6.out HAC6.out hj);
        have HXS7 := Lib.hid (HXS6.out.touch HA6.out hT7);
        have HWV7 := Lib.hid (ownsRow_at HWV6.out fun g cs hg => (HA6.out.other hT7 hg (by decide)).trans hg.symm);
        have HK7 := Lib.hid (ownsRow_at HOK1.out fun g cs hg => (HA6.out.other hT7 hg (by decide)).trans hg.symm);
        have HX7 := Lib.hid (HA6.out.other hT7 HBXK.out (by decide));
        have HBW7 := Lib.hid (HBW6.out.trans (hT7.below HBW6.out.size fun j hj => Nat.le_trans HLOW.out (HA6.out.low hj)));
        have HA7 := Lib.hid hA7;
        have HN7 := Lib.hid hn7;
        have HN7L := Lib.hid hn7l;
        clear hA7 hT7 hO7 hn7 hn7l))
        | (go_at_call 15; (with_reducible refine (HR7.out).mono ?_); rintro e w8 ⟨zv, zs, rfl, hzs, hzn, hb8⟩; go_loud (
        obtain ⟨Az, cz, rfl⟩ := row_form hzs.own;
        obtain ⟨nz, hnz⟩ : ∃ nz, nz = zs.length := ⟨_, rfl⟩;
        rw [← hnz] at hzs ⊢;
        have HLS := Lib.hid (rless_any w8 _ nx cx ln cw Ax Aw xs L (HXS7.out.below hb8) HNX.out (by rw [HNX.out, ← xNs_len, HNS.out]; have := HLEN.out; omega) (own_cells (own_below HWV7.out hb8) (Below.refl _ _) trivial) HLN.out (by rw [HLN.out, HLD.out]; have := walkL_le ns id; have := HLEN.out; omega) (fun ad e => by rw [e] at HWV7; exact Nat.lt_of_lt_of_le (World.ownsRow.lt HWV7.out ad.block rfl).2 hb8.size));
        have HZS := Lib.hid hzs;
        have HZN := Lib.hid hzn;
        have HNZ := Lib.hid hnz;
        have HB8 := Lib.hid hb8;
        clear hzs hzn hnz hb8))
        | (go_at_call 16; (with_reducible refine (HLS.out).mono ?_); rintro e w9 ⟨pv, rfl, hps, hb9⟩; go_loud (
        obtain ⟨Ap, cp, rfl⟩ := row_form hps.own;
        obtain ⟨np, hnp⟩ : ∃ np, np = (lessX L xs).length := ⟨_, rfl⟩;
        rw [← hnp] at hps ⊢;
        have HEQ := Lib.hid (requal_any w9 _ _ nz np cz cp Az Ap zs _ (HZS.out.below hb9) hps HNZ.out hnp (by rw [HNZ.out, ← xNs_len, HZN.out]; have := HN7L.out; omega));
        have HB9 := Lib.hid (HB8.out.trans (hb9.mono HB8.out.size));
        clear hps hnp hb9))
        | (go_at_call 14; (with_reducible refine (HEQ.out).mono ?_); rintro e w10 ⟨⟨be, rfl, hbe⟩, hb10⟩; go_loud (
        obtain rfl : be = true := hbe.2 (by rw [HZN.out, xNs_less, HNS.out, HN7.out]);
        have h710 := HB9.out.trans (hb10.mono HB9.out.size);
        have HR10 := Lib.hid (rows_any w10 _ gc gcm gcp _ Fc vsc ns (HAC7.out.below h710) (by have := HLEN.out; omega));
        have HB10 := Lib.hid h710;
        clear hbe hb10 h710))
        | (go_at_call 15; (with_reducible refine (HR10.out).mono ?_); rintro e w11 ⟨yv, ys, rfl, hys, hyn, hb11⟩; go_loud (
        obtain ⟨Ay, cy, rfl⟩ := row_form hys.own;
        obtain ⟨ny, hny⟩ : ∃ ny, ny = ys.length := ⟨_, rfl⟩;
        rw [← hny] at hys ⊢;
        have h711 := HB10.out.trans (hb11.mono HB10.out.size);
        have HEQ2 := Lib.hid (requal_any w11 _ _ ny nx cy cx Ay Ax ys xs hys (HXS7.out.below h711) hny HNX.out (by rw [hny, ← xNs_len, hyn]; have := HLEN.out; omega));
        have HYN := Lib.hid hyn;
        have HB11 := Lib.hid h711;
        clear hys hyn hny hb11 h711))
        | (go_at_call 14; (with_reducible refine (HEQ2.out).mono ?_); rintro e w12 ⟨⟨be, rfl, hbe⟩, hb12⟩; go_loud (
        obtain rfl : be = true := hbe.2 (by rw [HYN.out, HNS.out]);
        have h712 := HB11.out.trans (hb12.mono HB11.out.size);
        have hx12 := (h712.block _ (lt_of_heap2 HX7.out)).trans HX7.out;
        obtain ⟨e0, e1, e2, e3, e4, e5, _⟩ := box_cells hx12;
        have hK12 := own_below HK7.out h712;
        have hlK : K.length = kl := (by have h9 := hK12.1; rw [ids_length] at h9; omega);
        have hsl : IdSl w12 w12.heap.size (.slice A6 K.length c6) K := (by rw [hlK]; exact IdSl.of_own hK12 HSMK.out (by have := HKID.out; have := HKL.out; omega));
        have hwh := whole_own w12 ⟨nd.kind, nd.name, nd.num, nd.typ, nd.ref, K⟩ A6 c6 ⟨⟨A6, c6, rfl, hsl⟩, ⟨HOK6.out.kind, HOK6.out.name, HOK6.out.num, HOK6.out.typ, HOK6.out.ref⟩⟩ hsl;
        unfold WholeO ndV at hwh;
        dsimp only at hwh;
        rw [hlK] at hwh;
        have HWH := Lib.hid hwh;
        have HX12 := Lib.hid hx12;
        have HK12 := Lib.hid hK12;
        have HB12 := Lib.hid h712;
        clear hbe hb12 h712 hx12 hK12 hsl hwh hlK))
        | (go_at_call 17; (with_reducible refine (HWH.out).mono ?_); rintro e w13 ⟨A7, c7, rfl, ho7, hb13⟩; go_loud (
        have HO7 := Lib.hid ho7;
        have HB13 := Lib.hid hb13;
        have hbx2 : (w13.alloc (.cells #[.int .u8 (nd.kind : Int), .string nd.name, .int .i64 nd.num, .int .u8 (nd.typ : Int), .int .u64 (nd.ref : Int), .slice A7 kl c7] 33)).heap[w13.heap.size]? = some (.cells #[.int .u8 (nd.kind : Int), .string nd.name, .int .i64 nd.num, .int .u8 (nd.typ : Int), .int .u64 (nd.ref : Int), .slice A7 kl c7] 33 (0, 0)) := Go.heap_alloc_new _ _;
        obtain ⟨⟨y0, y1, y2, y3, y4, y5⟩, _⟩ := box_all hbx2;
        have HBX2 := Lib.hid hbx2;
        clear ho7 hb13 hbx2))
        )
      obtain ⟨g12, hg12⟩ : ∃ g12, g12 = w13.heap.size := ⟨_, rfl⟩
      have hst : D2I w12 g9 g12 #[] (#[.int .u8 (nd.kind : Int), .string nd.name, .int .i64 nd.num, .int .u8 (nd.typ : Int), .int .u64 (nd.ref : Int), .slice A7 kl c7]) K A7 kl c7 (.int .i64 ((0 : Nat) : Int)) (w13.alloc (.cells (#[.int .u8 (nd.kind : Int), .string nd.name, .int .i64 nd.num, .int .u8 (nd.typ : Int), .int .u64 (nd.ref : Int), .slice A7 kl c7]) 33)) := D2I.mk 0 K (Nat.zero_le _) (own_below HO7.out ((Below.refl _ _).alloc (Nat.le_refl _) _)) (by rw [hg12]; exact HBX2.out) (HB13.out.alloc HB13.out.size _) (fun _ => rfl) (fun h => absurd h (by omega))
      have HST2 := Lib.hid hst
      have HG12 := Lib.hid hg12
      rw [← hg12]
      clear hst hg12 e0 e1 e2 e3 e4 e5 y0 y1 y2 y3 y4 y5
      go_loopw [73] (fun i wr => D2I w12 g9 g12 #[] (#[.int .u8 (nd.kind : Int), .string nd.name, .int .i64 nd.num, .int .u8 (nd.typ : Int), .int .u64 (nd.ref : Int), .slice A7 kl c7]) K A7 kl c7 i wr) (fun i _ => kl - (intOf i).toNat)
      case atStart => exact HST2.out
      case round =>
        obtain ⟨k2, K2, hk2, rfl, hoK2, hbx2, hbK2, h20, h21⟩ := hrel
        obtain ⟨_, _, _, _, _, e5, _⟩ := box_cells hbx2
        by_cases hlt2 : k2 < kl
        · have hltI : (k2 : Int) < (kl : Int) := by omega
          obtain ⟨g7, hA7b, hg7, ⟨cs7, hcs7⟩, ⟨z, hz, hcz⟩, hfz, hkc, hset⟩ := own_set hoK2 hlt2 (((K2.getD k2 0) + 1) % 18446744073709551616)
          have hzg : K2.getD k2 0 = z := by rw [List.getD_eq_getElem?_getD, hz]; rfl
          rw [hzg] at hset
          subst hA7b
          have hne : g12 ≠ g7 := fun e => by
            rw [e, hcs7] at hbx2
            injection hbx2 with hbx2
            injection hbx2 with _ h2 _
            revert h2
            decide
          have h22 : ∀ y, K[0]? = some y → (K2.set k2 ((z + 1) % 18446744073709551616))[0]? = some ((y + 1) % 18446744073709551616) := fun y hy => by
            cases k2 with
            | zero =>
              have e2 := h20 rfl
              subst e2
              rw [hy] at hz
              injection hz with hz
              subst hz
              exact List.getElem?_set_self (List.getElem?_eq_some_iff.1 hy).1
            | succ k3 => rw [List.getElem?_set_ne (by omega)]; exact h21 (by omega) y hy
          have HSET2 := Lib.hid hset
          have HBX3 := Lib.hid hbx2
          have HBK2 := Lib.hid hbK2
          have HNE2 := Lib.hid hne
          have HG7 := Lib.hid hg7
          have H22 := Lib.hid h22
          clear hset hbx2 hbK2 hne hg7 h22 hoK2 hcs7 hzg h20 h21
          go_wp2_with fail
          have hfin := D2I.mk (w8 := w12) (g9 := g9) (box := #[]) (g12 := g12) (K0 := K) (box2 := #[.int .u8 (nd.kind : Int), .string nd.name, .int .i64 nd.num, .int .u8 (nd.typ : Int), .int .u64 (nd.ref : Int), .slice (some ⟨g7, 0, none⟩) kl c7]) (A := some ⟨g7, 0, none⟩) (c := c7) (k2 + 1) (K2.set k2 ((z + 1) % 18446744073709551616)) (by omega) HSET2.out ((heap_setCell_other _ ⟨g7, k2, none⟩ g12 _ HNE2.out).trans HBX3.out) (HBK2.out.setCell (p := ⟨g7, k2, none⟩) HG7.out _) (fun h => absurd h (by omega)) (fun _ => H22.out)
          rw [show ((k2 + 1 : Nat) : Int) = (k2 : Int) + 1 by omega] at hfin
          have hw2 : IntKind.u64.wrap ((z : Int) + 1) = (((z + 1) % 18446744073709551616 : Nat) : Int) := wrap_add z 1
          rw [hw2]
          exact ⟨hfin, by simp [intOf]; omega⟩
        · have hltI : ¬ (k2 : Int) < (kl : Int) := by omega
          have hk2l : k2 = kl := by omega
          rw [hk2l] at h21
          have HOK2 := Lib.hid hoK2
          have HBX3 := Lib.hid hbx2
          have HBK2 := Lib.hid hbK2
          have H21 := Lib.hid h21
          clear hoK2 hbx2 hbK2 h20 h21 e5 hk2l hk2
          go_wp2_with fail
          have h7r := HB12.out.trans (HBK2.out.mono HB12.out.size)
          have HAY := Lib.hid (HA7.out.below h7r)
          have HDS := Lib.hid (DropS.mk (w := w) (w4 := w4) (w12 := w12) (g9 := g9) (g12 := g12) (v9 := .slice A6 kl c6) (v12 := .slice A7 kl c7) (HBW7.out.trans (h7r.mono HBW7.out.size)) ((HBK2.out.block _ (lt_of_heap2 HX12.out)).trans HX12.out) HBX3.out (own_below HK12.out HBK2.out) HOK2.out)
          have hgone : (walkL n7 id).length = 0 := by rw [HN7.out, HLD.out, walkL_gone]; rfl
          have HGONE := Lib.hid hgone
          have hsum7 : sumU n7 [] ≤ 1000000 := by rw [HN7.out]; have := dropL_sum L ns; have := HSUM.out; omega
          have HSUM7 := Lib.hid hsum7
          clear h7r hgone hsum7
          obtain ⟨wy, hwy⟩ : ∃ wy, wy = wr := ⟨_, rfl⟩
          subst hwy
          cases ok with
          | false =>
            refine wp_region_noPanic ?_
            refine wp_region_held_drew (S := DropS w w4 w12 g9 g12 (#[.int .u8 (nd.kind : Int), .string nd.name, .int .i64 nd.num, .int .u8 (nd.typ : Int), .int .u64 (nd.ref : Int), .slice A6 kl c6]) (#[.int .u8 (nd.kind : Int), .string nd.name, .int .i64 nd.num, .int .u8 (nd.typ : Int), .int .u64 (nd.ref : Int), .slice A7 kl c7]) (.slice A6 kl c6) (.slice A7 kl c7) kl K K2) (by kernel_rfl) HDS.out.drew (fun hHeld => ?_)
            refine take_at (i := 0) (v := ?_) (some 84) rfl rfl (by kernel_rfl) (by kernel_rfl) (by kernel_rfl) (fun _ _ _ h => h) (Or.inl ⟨by rfl, ?_⟩) (by assumption) ?_
            rotate_left
            · intro w hSw
              skip
              first | (go_simp; done) | (go_simp; with_reducible rfl)
            try simp only [Act.put, List.setIfInBounds_toArray, List.set_cons_zero, List.set_cons_succ]
            refine take_at (i := 1) (v := ?_) (some 85) rfl rfl (by kernel_rfl) (by kernel_rfl) (by kernel_rfl) (fun _ _ _ h => h) (Or.inl ⟨by rfl, ?_⟩) (by assumption) ?_
            rotate_left
            · intro w hSw
              skip
              first | (go_simp; done) | (go_simp; with_reducible rfl)
            try simp only [Act.put, List.setIfInBounds_toArray, List.set_cons_zero, List.set_cons_succ]
            refine take_at (i := 2) (v := ?_) (some 86) rfl rfl (by kernel_rfl) (by kernel_rfl) (by kernel_rfl) (fun _ _ _ h => h) (Or.inl ⟨by rfl, ?_⟩) (by assumption) ?_
            rotate_left
            · intro w hSw
              skip
              first | (go_simp; done) | (go_simp; with_reducible rfl)
            try simp only [Act.put, List.setIfInBounds_toArray, List.set_cons_zero, List.set_cons_succ]
            refine take_at (i := 3) (v := undef) (some 87) rfl rfl (by kernel_rfl) (by kernel_rfl) (by kernel_rfl) (fun _ _ _ h => h) (Or.inr ⟨by rfl, rfl⟩) (by assumption) ?_
            try simp only [Act.put, List.setIfInBounds_toArray, List.set_cons_zero, List.set_cons_succ]
            refine take_at (i := 4) (v := undef) (some 88) rfl rfl (by kernel_rfl) (by kernel_rfl) (by kernel_rfl) (fun _ _ _ h => h) (Or.inr ⟨by rfl, rfl⟩) (by assumption) ?_
            try simp only [Act.put, List.setIfInBounds_toArray, List.set_cons_zero, List.set_cons_succ]
            refine take_at (i := 5) (v := undef) (some 89) rfl rfl (by kernel_rfl) (by kernel_rfl) (by kernel_rfl) (fun _ _ _ h => h) (Or.inr ⟨by rfl, rfl⟩) (by assumption) ?_
            try simp only [Act.put, List.setIfInBounds_toArray, List.set_cons_zero, List.set_cons_succ]
            refine take_at (i := 6) (v := undef) (some 90) rfl rfl (by kernel_rfl) (by kernel_rfl) (by kernel_rfl) (fun _ _ _ h => h) (Or.inr ⟨by rfl, rfl⟩) (by assumption) ?_
            try simp only [Act.put, List.setIfInBounds_toArray, List.set_cons_zero, List.set_cons_succ]
            refine take_at (i := 7) (v := ?_) (some 91) rfl rfl (by kernel_rfl) (by kernel_rfl) (by kernel_rfl) (fun _ _ _ h => h) (Or.inl ⟨by rfl, ?_⟩) (by assumption) ?_
            rotate_left
            · intro w hSw
              skip
              first | (go_simp; done) | (go_simp; with_reducible rfl)
            try simp only [Act.put, List.setIfInBounds_toArray, List.set_cons_zero, List.set_cons_succ]
            refine take_at (i := 8) (v := ?_) (some 92) rfl rfl (by kernel_rfl) (by kernel_rfl) (by kernel_rfl) (fun _ _ _ h => h) (Or.inl ⟨by rfl, ?_⟩) (by assumption) ?_
            rotate_left
            · intro w hSw
              skip
              first | (go_simp; done) | (go_simp; with_reducible rfl)
            try simp only [Act.put, List.setIfInBounds_toArray, List.set_cons_zero, List.set_cons_succ]
            refine take_at (i := 9) (v := undef) (some 93) rfl rfl (by kernel_rfl) (by kernel_rfl) (by kernel_rfl) (fun _ _ _ h => h) (Or.inr ⟨by rfl, rfl⟩) (by assumption) ?_
            try simp only [Act.put, List.setIfInBounds_toArray, List.set_cons_zero, List.set_cons_succ]
            refine take_at (i := 10) (v := undef) (some 94) rfl rfl (by kernel_rfl) (by kernel_rfl) (by kernel_rfl) (fun _ _ _ h => h) (Or.inr ⟨by rfl, rfl⟩) (by assumption) ?_
            try simp only [Act.put, List.setIfInBounds_toArray, List.set_cons_zero, List.set_cons_succ]
            refine take_at (i := 11) (v := undef) (some 95) rfl rfl (by kernel_rfl) (by kernel_rfl) (by kernel_rfl) (fun _ _ _ h => h) (Or.inr ⟨by rfl, rfl⟩) (by assumption) ?_
            try simp only [Act.put, List.setIfInBounds_toArray, List.set_cons_zero, List.set_cons_succ]
            refine take_at (i := 12) (v := undef) (some 96) rfl rfl (by kernel_rfl) (by kernel_rfl) (by kernel_rfl) (fun _ _ _ h => h) (Or.inr ⟨by rfl, rfl⟩) (by assumption) ?_
            try simp only [Act.put, List.setIfInBounds_toArray, List.set_cons_zero, List.set_cons_succ]
            refine take_at (i := 13) (v := undef) (some 97) rfl rfl (by kernel_rfl) (by kernel_rfl) (by kernel_rfl) (fun _ _ _ h => h) (Or.inr ⟨by rfl, rfl⟩) (by assumption) ?_
            try simp only [Act.put, List.setIfInBounds_toArray, List.set_cons_zero, List.set_cons_succ]
            refine take_at (i := 14) (v := undef) (some 98) rfl rfl (by kernel_rfl) (by kernel_rfl) (by kernel_rfl) (fun _ _ _ h => h) (Or.inr ⟨by rfl, rfl⟩) (by assumption) ?_
            try simp only [Act.put, List.setIfInBounds_toArray, List.set_cons_zero, List.set_cons_succ]
            refine take_at (i := 15) (v := undef) (some 99) rfl rfl (by kernel_rfl) (by kernel_rfl) (by kernel_rfl) (fun _ _ _ h => h) (Or.inr ⟨by rfl, rfl⟩) (by assumption) ?_
            try simp only [Act.put, List.setIfInBounds_toArray, List.set_cons_zero, List.set_cons_succ]
            refine take_at (i := 16) (v := undef) (some 100) rfl rfl (by kernel_rfl) (by kernel_rfl) (by kernel_rfl) (fun _ _ _ h => h) (Or.inr ⟨by rfl, rfl⟩) (by assumption) ?_
            try simp only [Act.put, List.setIfInBounds_toArray, List.set_cons_zero, List.set_cons_succ]
            refine take_at (i := 17) (v := undef) (some 101) rfl rfl (by kernel_rfl) (by kernel_rfl) (by kernel_rfl) (fun _ _ _ h => h) (Or.inr ⟨by rfl, rfl⟩) (by assumption) ?_
            try simp only [Act.put, List.setIfInBounds_toArray, List.set_cons_zero, List.set_cons_succ]
            refine take_at (i := 18) (v := ?_) (some 102) rfl rfl (by kernel_rfl) (by kernel_rfl) (by kernel_rfl) (fun _ _ _ h => h) (Or.inl ⟨by rfl, ?_⟩) (by assumption) ?_
            rotate_left
            · intro w hSw
              skip
              first | (go_simp; done) | (go_simp; with_reducible rfl)
            try simp only [Act.put, List.setIfInBounds_toArray, List.set_cons_zero, List.set_cons_succ]
            refine take_at (i := 19) (v := ?_) (some 103) rfl rfl (by kernel_rfl) (by kernel_rfl) (by kernel_rfl) (fun _ _ _ h => h) (Or.inl ⟨by rfl, ?_⟩) (by assumption) ?_
            rotate_left
            · intro w hSw
              skip
              first | (go_simp; done) | (go_simp; with_reducible rfl)
            try simp only [Act.put, List.setIfInBounds_toArray, List.set_cons_zero, List.set_cons_succ]
            refine take_at (i := 20) (v := ?_) (some 104) rfl rfl (by kernel_rfl) (by kernel_rfl) (by kernel_rfl) (fun _ _ _ h => h) (Or.inl ⟨by rfl, ?_⟩) (by assumption) ?_
            rotate_left
            · intro w hSw
              skip
              first | (go_simp; done) | (go_simp; with_reducible rfl)
            try simp only [Act.put, List.setIfInBounds_toArray, List.set_cons_zero, List.set_cons_succ]
            refine take_at (i := 21) (v := ?_) (some 105) rfl rfl (by kernel_rfl) (by kernel_rfl) (by kernel_rfl) (fun _ _ _ h => h) (Or.inl ⟨by rfl, ?_⟩) (by assumption) ?_
            rotate_left
            · intro w hSw
              skip
              first | (go_simp; done) | (go_simp; with_reducible rfl)
            try simp only [Act.put, List.setIfInBounds_toArray, List.set_cons_zero, List.set_cons_succ]
            refine wpAnyH_ready (rs := [22]) (by kernel_rfl) (by simp) ?_
            refine AllReadyH.cons rfl (fun K hK => ?_) AllReadyH.nil
            go_simp
            refine (drop_any _ _ ga gm gp id _ F7 vs7 n7 (HAY.out.below (ride_drew (Below.refl _ _))) HID.out (by have := HSUM.out; have := HSUM7.out; omega) (by have := HN7L.out; omega)).mono ?_
            rintro e w15 ⟨rfl, F8, vs8, hA8, hT8, hO8⟩
            rw [HGONE.out]
            have hkeep := hHeld.touch (HAY.out.below (ride_drew (Below.refl _ _))) hT8 HLOW.out
            clear hA8 hT8 hO8
            refine hK.out _ _ ?_ (fun hHeld2 => ?_)
            · exact hkeep
            clear hK K hHeld
            have hHeld := hHeld2
            clear hHeld2
            try simp only [Act.put, List.setIfInBounds_toArray, List.set_cons_zero, List.set_cons_succ]
            refine take_at (i := 23) (v := ?_) (some 107) rfl rfl (by kernel_rfl) (by kernel_rfl) (by kernel_rfl) (fun _ _ _ h => h) (Or.inl ⟨by rfl, ?_⟩) (by assumption) ?_
            rotate_left
            · intro w hSw
              skip
              first | (go_simp; done) | (go_simp; with_reducible rfl)
            try simp only [Act.put, List.setIfInBounds_toArray, List.set_cons_zero, List.set_cons_succ]
            refine take_at (i := 24) (v := ?_) (some 108) rfl rfl (by kernel_rfl) (by kernel_rfl) (by kernel_rfl) (fun _ _ _ h => h) (Or.inl ⟨by rfl, ?_⟩) (by assumption) ?_
            rotate_left
            · intro w hSw
              skip
              first | (go_simp; done) | (go_simp; with_reducible rfl)
            try simp only [Act.put, List.setIfInBounds_toArray, List.set_cons_zero, List.set_cons_succ]
            refine take_at (i := 25) (v := ?_) (some 4) rfl rfl (by kernel_rfl) (by kernel_rfl) (by kernel_rfl) (fun _ _ _ h => h) (Or.inl ⟨by rfl, ?_⟩) (by assumption) ?_
            rotate_left
            · intro w hSw
              skip
              first | (go_simp; done) | (go_simp; with_reducible rfl)
            try simp only [Act.put, List.setIfInBounds_toArray, List.set_cons_zero, List.set_cons_succ]
            refine wpAnyH_done (by kernel_rfl) ?_ _
            refine NoPanic.normal ?_
            have hfin := hHeld.below
            clear hHeld
            go_wp2_with fail
            go_ret
            exact ⟨by first | rfl | simp, hfin⟩
          | true =>
            by_cases hk0 : kl = 0
            · have hk0I : (kl : Int) = 0 := by omega
              have hk0J : ((kl : Int) == 0) = true := by rw [hk0I]; rfl
              subst hk0
              refine wp_region_noPanic ?_
              refine wp_region_held_drew (S := DropS w w4 w12 g9 g12 (#[.int .u8 (nd.kind : Int), .string nd.name, .int .i64 nd.num, .int .u8 (nd.typ : Int), .int .u64 (nd.ref : Int), .slice A6 0 c6]) (#[.int .u8 (nd.kind : Int), .string nd.name, .int .i64 nd.num, .int .u8 (nd.typ : Int), .int .u64 (nd.ref : Int), .slice A7 0 c7]) (.slice A6 0 c6) (.slice A7 0 c7) 0 K K2) (by kernel_rfl) HDS.out.drew (fun hHeld => ?_)
              refine take_at (i := 0) (v := ?_) (some 84) rfl rfl (by kernel_rfl) (by kernel_rfl) (by kernel_rfl) (fun _ _ _ h => h) (Or.inl ⟨by rfl, ?_⟩) (by assumption) ?_
              rotate_left
              · intro w hSw
                obtain ⟨_, _, _, _, _, z5, _⟩ := box_cells hSw.h9
                first | (go_simp; done) | (go_simp; with_reducible rfl)
              try simp only [Act.put, List.setIfInBounds_toArray, List.set_cons_zero, List.set_cons_succ]
              refine take_at (i := 1) (v := ?_) (some 85) rfl rfl (by kernel_rfl) (by kernel_rfl) (by kernel_rfl) (fun _ _ _ h => h) (Or.inl ⟨by rfl, ?_⟩) (by assumption) ?_
              rotate_left
              · intro w hSw
                obtain ⟨_, _, _, _, _, z5, _⟩ := box_cells hSw.h9
                first | (go_simp; done) | (go_simp; with_reducible rfl)
              try simp only [Act.put, List.setIfInBounds_toArray, List.set_cons_zero, List.set_cons_succ]
              refine take_at (i := 2) (v := ?_) (some 86) rfl rfl (by kernel_rfl) (by kernel_rfl) (by kernel_rfl) (fun _ _ _ h => h) (Or.inl ⟨by rfl, ?_⟩) (by assumption) ?_
              rotate_left
              · intro w hSw
                obtain ⟨_, _, _, _, _, z5, _⟩ := box_cells hSw.h9
                first | (go_simp; done) | (go_simp; with_reducible rfl)
              try simp only [Act.put, List.setIfInBounds_toArray, List.set_cons_zero, List.set_cons_succ]
              refine take_at (i := 3) (v := ?_) (some 87) rfl rfl (by kernel_rfl) (by kernel_rfl) (by kernel_rfl) (fun _ _ _ h => h) (Or.inl ⟨by rfl, ?_⟩) (by assumption) ?_
              rotate_left
              · intro w hSw
                obtain ⟨_, _, _, _, _, z5, _⟩ := box_cells hSw.h9
                first | (go_simp; done) | (go_simp; with_reducible rfl)
              try simp only [Act.put, List.setIfInBounds_toArray, List.set_cons_zero, List.set_cons_succ]
              refine take_at (i := 4) (v := ?_) (some 88) rfl rfl (by kernel_rfl) (by kernel_rfl) (by kernel_rfl) (fun _ _ _ h => h) (Or.inl ⟨by rfl, ?_⟩) (by assumption) ?_
              rotate_left
              · intro w hSw
                obtain ⟨_, _, _, _, _, z5, _⟩ := box_cells hSw.h9
                first | (go_simp; done) | (go_simp; with_reducible rfl)
              try simp only [Act.put, List.setIfInBounds_toArray, List.set_cons_zero, List.set_cons_succ]
              refine take_at (i := 5) (v := ?_) (some 89) rfl rfl (by kernel_rfl) (by kernel_rfl) (by kernel_rfl) (fun _ _ _ h => h) (Or.inl ⟨by rfl, ?_⟩) (by assumption) ?_
              rotate_left
              · intro w hSw
                obtain ⟨_, _, _, _, _, z5, _⟩ := box_cells hSw.h9
                first | (go_simp; done) | (go_simp; with_reducible rfl)
              try simp only [Act.put, List.setIfInBounds_toArray, List.set_cons_zero, List.set_cons_succ]
              refine take_at (i := 6) (v := ?_) (some 90) rfl rfl (by kernel_rfl) (by kernel_rfl) (by kernel_rfl) (fun _ _ _ h => h) (Or.inl ⟨by rfl, ?_⟩) (by assumption) ?_
              rotate_left
              · intro w hSw
                obtain ⟨_, _, _, _, _, z5, _⟩ := box_cells hSw.h9
                first | (go_simp; done) | (go_simp; with_reducible rfl)
              try simp only [Act.put, List.setIfInBounds_toArray, List.set_cons_zero, List.set_cons_succ]
              refine take_at (i := 7) (v := ?_) (some 91) rfl rfl (by kernel_rfl) (by kernel_rfl) (by kernel_rfl) (fun _ _ _ h => h) (Or.inl ⟨by rfl, ?_⟩) (by assumption) ?_
              rotate_left
              · intro w hSw
                obtain ⟨_, _, _, _, _, z5, _⟩ := box_cells hSw.h9
                first | (go_simp; done) | (go_simp; with_reducible rfl)
              try simp only [Act.put, List.setIfInBounds_toArray, List.set_cons_zero, List.set_cons_succ]
              refine take_at (i := 8) (v := ?_) (some 92) rfl rfl (by kernel_rfl) (by kernel_rfl) (by kernel_rfl) (fun _ _ _ h => h) (Or.inl ⟨by rfl, ?_⟩) (by assumption) ?_
              rotate_left
              · intro w hSw
                obtain ⟨_, _, _, _, _, z5, _⟩ := box_cells hSw.h9
                first | (go_simp; done) | (go_simp; with_reducible rfl)
              try simp only [Act.put, List.setIfInBounds_toArray, List.set_cons_zero, List.set_cons_succ]
              refine take_at (i := 9) (v := undef) (some 93) rfl rfl (by kernel_rfl) (by kernel_rfl) (by kernel_rfl) (fun _ _ _ h => h) (Or.inr ⟨by rfl, rfl⟩) (by assumption) ?_
              try simp only [Act.put, List.setIfInBounds_toArray, List.set_cons_zero, List.set_cons_succ]
              refine take_at (i := 10) (v := undef) (some 94) rfl rfl (by kernel_rfl) (by kernel_rfl) (by kernel_rfl) (fun _ _ _ h => h) (Or.inr ⟨by rfl, rfl⟩) (by assumption) ?_
              try simp only [Act.put, List.setIfInBounds_toArray, List.set_cons_zero, List.set_cons_succ]
              refine take_at (i := 11) (v := undef) (some 95) rfl rfl (by kernel_rfl) (by kernel_rfl) (by kernel_rfl) (fun _ _ _ h => h) (Or.inr ⟨by rfl, rfl⟩) (by assumption) ?_
              try simp only [Act.put, List.setIfInBounds_toArray, List.set_cons_zero, List.set_cons_succ]
              refine take_at (i := 12) (v := undef) (some 96) rfl rfl (by kernel_rfl) (by kernel_rfl) (by kernel_rfl) (fun _ _ _ h => h) (Or.inr ⟨by rfl, rfl⟩) (by assumption) ?_
              try simp only [Act.put, List.setIfInBounds_toArray, List.set_cons_zero, List.set_cons_succ]
              refine take_at (i := 13) (v := undef) (some 97) rfl rfl (by kernel_rfl) (by kernel_rfl) (by kernel_rfl) (fun _ _ _ h => h) (Or.inr ⟨by rfl, rfl⟩) (by assumption) ?_
              try simp only [Act.put, List.setIfInBounds_toArray, List.set_cons_zero, List.set_cons_succ]
              refine take_at (i := 14) (v := undef) (some 98) rfl rfl (by kernel_rfl) (by kernel_rfl) (by kernel_rfl) (fun _ _ _ h => h) (Or.inr ⟨by rfl, rfl⟩) (by assumption) ?_
              try simp only [Act.put, List.setIfInBounds_toArray, List.set_cons_zero, List.set_cons_succ]
              refine take_at (i := 15) (v := undef) (some 99) rfl rfl (by kernel_rfl) (by kernel_rfl) (by kernel_rfl) (fun _ _ _ h => h) (Or.inr ⟨by rfl, rfl⟩) (by assumption) ?_
              try simp only [Act.put, List.setIfInBounds_toArray, List.set_cons_zero, List.set_cons_succ]
              refine take_at (i := 16) (v := undef) (some 100) rfl rfl (by kernel_rfl) (by kernel_rfl) (by kernel_rfl) (fun _ _ _ h => h) (Or.inr ⟨by rfl, rfl⟩) (by assumption) ?_
              try simp only [Act.put, List.setIfInBounds_toArray, List.set_cons_zero, List.set_cons_succ]
              refine take_at (i := 17) (v := undef) (some 101) rfl rfl (by kernel_rfl) (by kernel_rfl) (by kernel_rfl) (fun _ _ _ h => h) (Or.inr ⟨by rfl, rfl⟩) (by assumption) ?_
              try simp only [Act.put, List.setIfInBounds_toArray, List.set_cons_zero, List.set_cons_succ]
              refine take_at (i := 18) (v := ?_) (some 102) rfl rfl (by kernel_rfl) (by kernel_rfl) (by kernel_rfl) (fun _ _ _ h => h) (Or.inl ⟨by rfl, ?_⟩) (by assumption) ?_
              rotate_left
              · intro w hSw
                obtain ⟨_, _, _, _, _, z5, _⟩ := box_cells hSw.h9
                first | (go_simp; done) | (go_simp; with_reducible rfl)
              try simp only [Act.put, List.setIfInBounds_toArray, List.set_cons_zero, List.set_cons_succ]
              refine take_at (i := 19) (v := ?_) (some 103) rfl rfl (by kernel_rfl) (by kernel_rfl) (by kernel_rfl) (fun _ _ _ h => h) (Or.inl ⟨by rfl, ?_⟩) (by assumption) ?_
              rotate_left
              · intro w hSw
                obtain ⟨_, _, _, _, _, z5, _⟩ := box_cells hSw.h9
                first | (go_simp; done) | (go_simp; with_reducible rfl)
              try simp only [Act.put, List.setIfInBounds_toArray, List.set_cons_zero, List.set_cons_succ]
              refine take_at (i := 20) (v := ?_) (some 104) rfl rfl (by kernel_rfl) (by kernel_rfl) (by kernel_rfl) (fun _ _ _ h => h) (Or.inl ⟨by rfl, ?_⟩) (by assumption) ?_
              rotate_left
              · intro w hSw
                obtain ⟨_, _, _, _, _, z5, _⟩ := box_cells hSw.h9
                first | (go_simp; done) | (go_simp; with_reducible rfl)
              try simp only [Act.put, List.setIfInBounds_toArray, List.set_cons_zero, List.set_cons_succ]
              refine take_at (i := 21) (v := ?_) (some 105) rfl rfl (by kernel_rfl) (by kernel_rfl) (by kernel_rfl) (fun _ _ _ h => h) (Or.inl ⟨by rfl, ?_⟩) (by assumption) ?_
              rotate_left
              · intro w hSw
                obtain ⟨_, _, _, _, _, z5, _⟩ := box_cells hSw.h9
                first | (go_simp; done) | (go_simp; with_reducible rfl)
              try simp only [Act.put, List.setIfInBounds_toArray, List.set_cons_zero, List.set_cons_succ]
              refine wpAnyH_ready (rs := [22]) (by kernel_rfl) (by simp) ?_
              refine AllReadyH.cons rfl (fun K hK => ?_) AllReadyH.nil
              go_simp
              refine (drop_any _ _ ga gm gp id _ F7 vs7 n7 (HAY.out.below (ride_drew (Below.refl _ _))) HID.out (by have := HSUM.out; have := HSUM7.out; omega) (by have := HN7L.out; omega)).mono ?_
              rintro e w15 ⟨rfl, F8, vs8, hA8, hT8, hO8⟩
              rw [HGONE.out]
              have hkeep := hHeld.touch (HAY.out.below (ride_drew (Below.refl _ _))) hT8 HLOW.out
              clear hA8 hT8 hO8
              refine hK.out _ _ ?_ (fun hHeld2 => ?_)
              · exact hkeep
              clear hK K hHeld
              have hHeld := hHeld2
              clear hHeld2
              try simp only [Act.put, List.setIfInBounds_toArray, List.set_cons_zero, List.set_cons_succ]
              refine take_at (i := 23) (v := ?_) (some 107) rfl rfl (by kernel_rfl) (by kernel_rfl) (by kernel_rfl) (fun _ _ _ h => h) (Or.inl ⟨by rfl, ?_⟩) (by assumption) ?_
              rotate_left
              · intro w hSw
                obtain ⟨_, _, _, _, _, z5, _⟩ := box_cells hSw.h9
                first | (go_simp; done) | (go_simp; with_reducible rfl)
              try simp only [Act.put, List.setIfInBounds_toArray, List.set_cons_zero, List.set_cons_succ]
              refine take_at (i := 24) (v := ?_) (some 108) rfl rfl (by kernel_rfl) (by kernel_rfl) (by kernel_rfl) (fun _ _ _ h => h) (Or.inl ⟨by rfl, ?_⟩) (by assumption) ?_
              rotate_left
              · intro w hSw
                obtain ⟨_, _, _, _, _, z5, _⟩ := box_cells hSw.h9
                first | (go_simp; done) | (go_simp; with_reducible rfl)
              try simp only [Act.put, List.setIfInBounds_toArray, List.set_cons_zero, List.set_cons_succ]
              refine take_at (i := 25) (v := ?_) (some 4) rfl rfl (by kernel_rfl) (by kernel_rfl) (by kernel_rfl) (fun _ _ _ h => h) (Or.inl ⟨by rfl, ?_⟩) (by assumption) ?_
              rotate_left
              · intro w hSw
                obtain ⟨_, _, _, _, _, z5, _⟩ := box_cells hSw.h9
                first | (go_simp; done) | (go_simp; with_reducible rfl)
              try simp only [Act.put, List.setIfInBounds_toArray, List.set_cons_zero, List.set_cons_succ]
              refine wpAnyH_done (by kernel_rfl) ?_ _
              refine NoPanic.normal ?_
              have hfin := hHeld.below
              clear hHeld
              go_wp2_with fail
              go_ret
              exact ⟨by first | rfl | simp, hfin⟩
            · have hk0I : ¬ (kl : Int) = 0 := by omega
              have hk0J : ((kl : Int) == 0) = false := by rw [beq_eq_false_iff_ne]; exact hk0I
              have hkp : (0 : Int) < (kl : Int) := by omega
              have hkn : 0 < kl := by omega
              obtain ⟨g6, hA6, _, _, ⟨a0, ha0, _⟩, _⟩ := own_set HDS.out.k9 (Nat.pos_of_ne_zero hk0) 0
              obtain ⟨g7, hA7, _, _, ⟨a1, ha1, _⟩, _⟩ := own_set HDS.out.k12 (Nat.pos_of_ne_zero hk0) 0
              subst hA6 hA7
              have hne : ¬ (a0 : Int) = (a1 : Int) := by
                have h1 := H21.out (Nat.pos_of_ne_zero hk0) a0 ha0
                rw [ha1] at h1
                injection h1 with h1
                omega
              have hneb : ((a0 : Int) != (a1 : Int)) = true := by rw [bne_iff_ne]; exact hne
              refine wp_region_noPanic ?_
              refine wp_region_held_drew (S := DropS w w4 w12 g9 g12 (#[.int .u8 (nd.kind : Int), .string nd.name, .int .i64 nd.num, .int .u8 (nd.typ : Int), .int .u64 (nd.ref : Int), .slice (some ⟨g6, 0, none⟩) kl c6]) (#[.int .u8 (nd.kind : Int), .string nd.name, .int .i64 nd.num, .int .u8 (nd.typ : Int), .int .u64 (nd.ref : Int), .slice (some ⟨g7, 0, none⟩) kl c7]) (.slice (some ⟨g6, 0, none⟩) kl c6) (.slice (some ⟨g7, 0, none⟩) kl c7) kl K K2) (by kernel_rfl) HDS.out.drew (fun hHeld => ?_)
              refine take_at (i := 0) (v := ?_) (some 84) rfl rfl (by kernel_rfl) (by kernel_rfl) (by kernel_rfl) (fun _ _ _ h => h) (Or.inl ⟨by rfl, ?_⟩) (by assumption) ?_
              rotate_left
              · intro w hSw
                obtain ⟨_, _, _, _, _, z5, _⟩ := box_cells hSw.h9; obtain ⟨_, _, _, _, _, z11, _⟩ := box_cells hSw.h12; have z6 := own_first hSw.k9 ha0; have z7 := own_first hSw.k12 ha1
                first | (go_simp; done) | (go_simp; with_reducible rfl)
              try simp only [Act.put, List.setIfInBounds_toArray, List.set_cons_zero, List.set_cons_succ]
              refine take_at (i := 1) (v := ?_) (some 85) rfl rfl (by kernel_rfl) (by kernel_rfl) (by kernel_rfl) (fun _ _ _ h => h) (Or.inl ⟨by rfl, ?_⟩) (by assumption) ?_
              rotate_left
              · intro w hSw
                obtain ⟨_, _, _, _, _, z5, _⟩ := box_cells hSw.h9; obtain ⟨_, _, _, _, _, z11, _⟩ := box_cells hSw.h12; have z6 := own_first hSw.k9 ha0; have z7 := own_first hSw.k12 ha1
                first | (go_simp; done) | (go_simp; with_reducible rfl)
              try simp only [Act.put, List.setIfInBounds_toArray, List.set_cons_zero, List.set_cons_succ]
              refine take_at (i := 2) (v := ?_) (some 86) rfl rfl (by kernel_rfl) (by kernel_rfl) (by kernel_rfl) (fun _ _ _ h => h) (Or.inl ⟨by rfl, ?_⟩) (by assumption) ?_
              rotate_left
              · intro w hSw
                obtain ⟨_, _, _, _, _, z5, _⟩ := box_cells hSw.h9; obtain ⟨_, _, _, _, _, z11, _⟩ := box_cells hSw.h12; have z6 := own_first hSw.k9 ha0; have z7 := own_first hSw.k12 ha1
                first | (go_simp; done) | (go_simp; with_reducible rfl)
              try simp only [Act.put, List.setIfInBounds_toArray, List.set_cons_zero, List.set_cons_succ]
              refine take_at (i := 3) (v := ?_) (some 87) rfl rfl (by kernel_rfl) (by kernel_rfl) (by kernel_rfl) (fun _ _ _ h => h) (Or.inl ⟨by rfl, ?_⟩) (by assumption) ?_
              rotate_left
              · intro w hSw
                obtain ⟨_, _, _, _, _, z5, _⟩ := box_cells hSw.h9; obtain ⟨_, _, _, _, _, z11, _⟩ := box_cells hSw.h12; have z6 := own_first hSw.k9 ha0; have z7 := own_first hSw.k12 ha1
                first | (go_simp; done) | (go_simp; with_reducible rfl)
              try simp only [Act.put, List.setIfInBounds_toArray, List.set_cons_zero, List.set_cons_succ]
              refine take_at (i := 4) (v := ?_) (some 88) rfl rfl (by kernel_rfl) (by kernel_rfl) (by kernel_rfl) (fun _ _ _ h => h) (Or.inl ⟨by rfl, ?_⟩) (by assumption) ?_
              rotate_left
              · intro w hSw
                obtain ⟨_, _, _, _, _, z5, _⟩ := box_cells hSw.h9; obtain ⟨_, _, _, _, _, z11, _⟩ := box_cells hSw.h12; have z6 := own_first hSw.k9 ha0; have z7 := own_first hSw.k12 ha1
                first | (go_simp; done) | (go_simp; with_reducible rfl)
              try simp only [Act.put, List.setIfInBounds_toArray, List.set_cons_zero, List.set_cons_succ]
              refine take_at (i := 5) (v := ?_) (some 89) rfl rfl (by kernel_rfl) (by kernel_rfl) (by kernel_rfl) (fun _ _ _ h => h) (Or.inl ⟨by rfl, ?_⟩) (by assumption) ?_
              rotate_left
              · intro w hSw
                obtain ⟨_, _, _, _, _, z5, _⟩ := box_cells hSw.h9; obtain ⟨_, _, _, _, _, z11, _⟩ := box_cells hSw.h12; have z6 := own_first hSw.k9 ha0; have z7 := own_first hSw.k12 ha1
                first | (go_simp; done) | (go_simp; with_reducible rfl)
              try simp only [Act.put, List.setIfInBounds_toArray, List.set_cons_zero, List.set_cons_succ]
              refine take_at (i := 6) (v := ?_) (some 90) rfl rfl (by kernel_rfl) (by kernel_rfl) (by kernel_rfl) (fun _ _ _ h => h) (Or.inl ⟨by rfl, ?_⟩) (by assumption) ?_
              rotate_left
              · intro w hSw
                obtain ⟨_, _, _, _, _, z5, _⟩ := box_cells hSw.h9; obtain ⟨_, _, _, _, _, z11, _⟩ := box_cells hSw.h12; have z6 := own_first hSw.k9 ha0; have z7 := own_first hSw.k12 ha1
                first | (go_simp; done) | (go_simp; with_reducible rfl)
              try simp only [Act.put, List.setIfInBounds_toArray, List.set_cons_zero, List.set_cons_succ]
              refine take_at (i := 7) (v := ?_) (some 91) rfl rfl (by kernel_rfl) (by kernel_rfl) (by kernel_rfl) (fun _ _ _ h => h) (Or.inl ⟨by rfl, ?_⟩) (by assumption) ?_
              rotate_left
              · intro w hSw
                obtain ⟨_, _, _, _, _, z5, _⟩ := box_cells hSw.h9; obtain ⟨_, _, _, _, _, z11, _⟩ := box_cells hSw.h12; have z6 := own_first hSw.k9 ha0; have z7 := own_first hSw.k12 ha1
                first | (go_simp; done) | (go_simp; with_reducible rfl)
              try simp only [Act.put, List.setIfInBounds_toArray, List.set_cons_zero, List.set_cons_succ]
              refine take_at (i := 8) (v := ?_) (some 92) rfl rfl (by kernel_rfl) (by kernel_rfl) (by kernel_rfl) (fun _ _ _ h => h) (Or.inl ⟨by rfl, ?_⟩) (by assumption) ?_
              rotate_left
              · intro w hSw
                obtain ⟨_, _, _, _, _, z5, _⟩ := box_cells hSw.h9; obtain ⟨_, _, _, _, _, z11, _⟩ := box_cells hSw.h12; have z6 := own_first hSw.k9 ha0; have z7 := own_first hSw.k12 ha1
                first | (go_simp; done) | (go_simp; with_reducible rfl)
              try simp only [Act.put, List.setIfInBounds_toArray, List.set_cons_zero, List.set_cons_succ]
              refine take_at (i := 9) (v := ?_) (some 93) rfl rfl (by kernel_rfl) (by kernel_rfl) (by kernel_rfl) (fun _ _ _ h => h) (Or.inl ⟨by rfl, ?_⟩) (by assumption) ?_
              rotate_left
              · intro w hSw
                obtain ⟨_, _, _, _, _, z5, _⟩ := box_cells hSw.h9; obtain ⟨_, _, _, _, _, z11, _⟩ := box_cells hSw.h12; have z6 := own_first hSw.k9 ha0; have z7 := own_first hSw.k12 ha1
                first | (go_simp; done) | (go_simp; with_reducible rfl)
              try simp only [Act.put, List.setIfInBounds_toArray, List.set_cons_zero, List.set_cons_succ]
              refine take_at (i := 10) (v := ?_) (some 94) rfl rfl (by kernel_rfl) (by kernel_rfl) (by kernel_rfl) (fun _ _ _ h => h) (Or.inl ⟨by rfl, ?_⟩) (by assumption) ?_
              rotate_left
              · intro w hSw
                obtain ⟨_, _, _, _, _, z5, _⟩ := box_cells hSw.h9; obtain ⟨_, _, _, _, _, z11, _⟩ := box_cells hSw.h12; have z6 := own_first hSw.k9 ha0; have z7 := own_first hSw.k12 ha1
                first | (go_simp; done) | (go_simp; with_reducible rfl)
              try simp only [Act.put, List.setIfInBounds_toArray, List.set_cons_zero, List.set_cons_succ]
              refine take_at (i := 11) (v := ?_) (some 95) rfl rfl (by kernel_rfl) (by kernel_rfl) (by kernel_rfl) (fun _ _ _ h => h) (Or.inl ⟨by rfl, ?_⟩) (by assumption) ?_
              rotate_left
              · intro w hSw
                obtain ⟨_, _, _, _, _, z5, _⟩ := box_cells hSw.h9; obtain ⟨_, _, _, _, _, z11, _⟩ := box_cells hSw.h12; have z6 := own_first hSw.k9 ha0; have z7 := own_first hSw.k12 ha1
                first | (go_simp; done) | (go_simp; with_reducible rfl)
              try simp only [Act.put, List.setIfInBounds_toArray, List.set_cons_zero, List.set_cons_succ]
              refine take_at (i := 12) (v := ?_) (some 96) rfl rfl (by kernel_rfl) (by kernel_rfl) (by kernel_rfl) (fun _ _ _ h => h) (Or.inl ⟨by rfl, ?_⟩) (by assumption) ?_
              rotate_left
              · intro w hSw
                obtain ⟨_, _, _, _, _, z5, _⟩ := box_cells hSw.h9; obtain ⟨_, _, _, _, _, z11, _⟩ := box_cells hSw.h12; have z6 := own_first hSw.k9 ha0; have z7 := own_first hSw.k12 ha1
                first | (go_simp; done) | (go_simp; with_reducible rfl)
              try simp only [Act.put, List.setIfInBounds_toArray, List.set_cons_zero, List.set_cons_succ]
              refine take_at (i := 13) (v := ?_) (some 97) rfl rfl (by kernel_rfl) (by kernel_rfl) (by kernel_rfl) (fun _ _ _ h => h) (Or.inl ⟨by rfl, ?_⟩) (by assumption) ?_
              rotate_left
              · intro w hSw
                obtain ⟨_, _, _, _, _, z5, _⟩ := box_cells hSw.h9; obtain ⟨_, _, _, _, _, z11, _⟩ := box_cells hSw.h12; have z6 := own_first hSw.k9 ha0; have z7 := own_first hSw.k12 ha1
                first | (go_simp; done) | (go_simp; with_reducible rfl)
              try simp only [Act.put, List.setIfInBounds_toArray, List.set_cons_zero, List.set_cons_succ]
              refine take_at (i := 14) (v := ?_) (some 98) rfl rfl (by kernel_rfl) (by kernel_rfl) (by kernel_rfl) (fun _ _ _ h => h) (Or.inl ⟨by rfl, ?_⟩) (by assumption) ?_
              rotate_left
              · intro w hSw
                obtain ⟨_, _, _, _, _, z5, _⟩ := box_cells hSw.h9; obtain ⟨_, _, _, _, _, z11, _⟩ := box_cells hSw.h12; have z6 := own_first hSw.k9 ha0; have z7 := own_first hSw.k12 ha1
                first | (go_simp; done) | (go_simp; with_reducible rfl)
              try simp only [Act.put, List.setIfInBounds_toArray, List.set_cons_zero, List.set_cons_succ]
              refine take_at (i := 15) (v := ?_) (some 99) rfl rfl (by kernel_rfl) (by kernel_rfl) (by kernel_rfl) (fun _ _ _ h => h) (Or.inl ⟨by rfl, ?_⟩) (by assumption) ?_
              rotate_left
              · intro w hSw
                obtain ⟨_, _, _, _, _, z5, _⟩ := box_cells hSw.h9; obtain ⟨_, _, _, _, _, z11, _⟩ := box_cells hSw.h12; have z6 := own_first hSw.k9 ha0; have z7 := own_first hSw.k12 ha1
                first | (go_simp; done) | (go_simp; with_reducible rfl)
              try simp only [Act.put, List.setIfInBounds_toArray, List.set_cons_zero, List.set_cons_succ]
              refine take_at (i := 16) (v := ?_) (some 100) rfl rfl (by kernel_rfl) (by kernel_rfl) (by kernel_rfl) (fun _ _ _ h => h) (Or.inl ⟨by rfl, ?_⟩) (by assumption) ?_
              rotate_left
              · intro w hSw
                obtain ⟨_, _, _, _, _, z5, _⟩ := box_cells hSw.h9; obtain ⟨_, _, _, _, _, z11, _⟩ := box_cells hSw.h12; have z6 := own_first hSw.k9 ha0; have z7 := own_first hSw.k12 ha1
                first | (go_simp; done) | (go_simp; with_reducible rfl)
              try simp only [Act.put, List.setIfInBounds_toArray, List.set_cons_zero, List.set_cons_succ]
              refine take_at (i := 17) (v := ?_) (some 101) rfl rfl (by kernel_rfl) (by kernel_rfl) (by kernel_rfl) (fun _ _ _ h => h) (Or.inl ⟨by rfl, ?_⟩) (by assumption) ?_
              rotate_left
              · intro w hSw
                obtain ⟨_, _, _, _, _, z5, _⟩ := box_cells hSw.h9; obtain ⟨_, _, _, _, _, z11, _⟩ := box_cells hSw.h12; have z6 := own_first hSw.k9 ha0; have z7 := own_first hSw.k12 ha1
                first | (go_simp; done) | (go_simp; with_reducible rfl)
              try simp only [Act.put, List.setIfInBounds_toArray, List.set_cons_zero, List.set_cons_succ]
              refine take_at (i := 18) (v := ?_) (some 102) rfl rfl (by kernel_rfl) (by kernel_rfl) (by kernel_rfl) (fun _ _ _ h => h) (Or.inl ⟨by rfl, ?_⟩) (by assumption) ?_
              rotate_left
              · intro w hSw
                obtain ⟨_, _, _, _, _, z5, _⟩ := box_cells hSw.h9; obtain ⟨_, _, _, _, _, z11, _⟩ := box_cells hSw.h12; have z6 := own_first hSw.k9 ha0; have z7 := own_first hSw.k12 ha1
                first | (go_simp; done) | (go_simp; with_reducible rfl)
              try simp only [Act.put, List.setIfInBounds_toArray, List.set_cons_zero, List.set_cons_succ]
              refine take_at (i := 19) (v := ?_) (some 103) rfl rfl (by kernel_rfl) (by kernel_rfl) (by kernel_rfl) (fun _ _ _ h => h) (Or.inl ⟨by rfl, ?_⟩) (by assumption) ?_
              rotate_left
              · intro w hSw
                obtain ⟨_, _, _, _, _, z5, _⟩ := box_cells hSw.h9; obtain ⟨_, _, _, _, _, z11, _⟩ := box_cells hSw.h12; have z6 := own_first hSw.k9 ha0; have z7 := own_first hSw.k12 ha1
                first | (go_simp; done) | (go_simp; with_reducible rfl)
              try simp only [Act.put, List.setIfInBounds_toArray, List.set_cons_zero, List.set_cons_succ]
              refine take_at (i := 20) (v := ?_) (some 104) rfl rfl (by kernel_rfl) (by kernel_rfl) (by kernel_rfl) (fun _ _ _ h => h) (Or.inl ⟨by rfl, ?_⟩) (by assumption) ?_
              rotate_left
              · intro w hSw
                obtain ⟨_, _, _, _, _, z5, _⟩ := box_cells hSw.h9; obtain ⟨_, _, _, _, _, z11, _⟩ := box_cells hSw.h12; have z6 := own_first hSw.k9 ha0; have z7 := own_first hSw.k12 ha1
                first | (go_simp; done) | (go_simp; with_reducible rfl)
              try simp only [Act.put, List.setIfInBounds_toArray, List.set_cons_zero, List.set_cons_succ]
              refine take_at (i := 21) (v := ?_) (some 105) rfl rfl (by kernel_rfl) (by kernel_rfl) (by kernel_rfl) (fun _ _ _ h => h) (Or.inl ⟨by rfl, ?_⟩) (by assumption) ?_
              rotate_left
              · intro w hSw
                obtain ⟨_, _, _, _, _, z5, _⟩ := box_cells hSw.h9; obtain ⟨_, _, _, _, _, z11, _⟩ := box_cells hSw.h12; have z6 := own_first hSw.k9 ha0; have z7 := own_first hSw.k12 ha1
                first | (go_simp; done) | (go_simp; with_reducible rfl)
              try simp only [Act.put, List.setIfInBounds_toArray, List.set_cons_zero, List.set_cons_succ]
              refine wpAnyH_ready (rs := [22]) (by kernel_rfl) (by simp) ?_
              refine AllReadyH.cons rfl (fun K hK => ?_) AllReadyH.nil
              go_simp
              refine (drop_any _ _ ga gm gp id _ F7 vs7 n7 (HAY.out.below (ride_drew (Below.refl _ _))) HID.out (by have := HSUM.out; have := HSUM7.out; omega) (by have := HN7L.out; omega)).mono ?_
              rintro e w15 ⟨rfl, F8, vs8, hA8, hT8, hO8⟩
              rw [HGONE.out]
              have hkeep := hHeld.touch (HAY.out.below (ride_drew (Below.refl _ _))) hT8 HLOW.out
              clear hA8 hT8 hO8
              refine hK.out _ _ ?_ (fun hHeld2 => ?_)
              · exact hkeep
              clear hK K hHeld
              have hHeld := hHeld2
              clear hHeld2
              try simp only [Act.put, List.setIfInBounds_toArray, List.set_cons_zero, List.set_cons_succ]
              refine take_at (i := 23) (v := ?_) (some 107) rfl rfl (by kernel_rfl) (by kernel_rfl) (by kernel_rfl) (fun _ _ _ h => h) (Or.inl ⟨by rfl, ?_⟩) (by assumption) ?_
              rotate_left
              · intro w hSw
                obtain ⟨_, _, _, _, _, z5, _⟩ := box_cells hSw.h9; obtain ⟨_, _, _, _, _, z11, _⟩ := box_cells hSw.h12; have z6 := own_first hSw.k9 ha0; have z7 := own_first hSw.k12 ha1
                first | (go_simp; done) | (go_simp; with_reducible rfl)
              try simp only [Act.put, List.setIfInBounds_toArray, List.set_cons_zero, List.set_cons_succ]
              refine take_at (i := 24) (v := ?_) (some 108) rfl rfl (by kernel_rfl) (by kernel_rfl) (by kernel_rfl) (fun _ _ _ h => h) (Or.inl ⟨by rfl, ?_⟩) (by assumption) ?_
              rotate_left
              · intro w hSw
                obtain ⟨_, _, _, _, _, z5, _⟩ := box_cells hSw.h9; obtain ⟨_, _, _, _, _, z11, _⟩ := box_cells hSw.h12; have z6 := own_first hSw.k9 ha0; have z7 := own_first hSw.k12 ha1
                first | (go_simp; done) | (go_simp; with_reducible rfl)
              try simp only [Act.put, List.setIfInBounds_toArray, List.set_cons_zero, List.set_cons_succ]
              refine take_at (i := 25) (v := ?_) (some 4) rfl rfl (by kernel_rfl) (by kernel_rfl) (by kernel_rfl) (fun _ _ _ h => h) (Or.inl ⟨by rfl, ?_⟩) (by assumption) ?_
              rotate_left
              · intro w hSw
                obtain ⟨_, _, _, _, _, z5, _⟩ := box_cells hSw.h9; obtain ⟨_, _, _, _, _, z11, _⟩ := box_cells hSw.h12; have z6 := own_first hSw.k9 ha0; have z7 := own_first hSw.k12 ha1
                first | (go_simp; done) | (go_simp; with_reducible rfl)
              try simp only [Act.put, List.setIfInBounds_toArray, List.set_cons_zero, List.set_cons_succ]
              refine wpAnyH_done (by kernel_rfl) ?_ _
              refine NoPanic.normal ?_
              have hfin := hHeld.below
              clear hHeld
              go_wp2_with fail
              go_ret
              exact ⟨by first | rfl | simp, hfin⟩
end Go.Proofs.Ytogkeoainejfcaa
