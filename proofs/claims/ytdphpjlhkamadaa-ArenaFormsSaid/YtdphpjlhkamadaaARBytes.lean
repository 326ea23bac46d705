/- Contract: a list of nodes' bytes as the reference has them. -/
import Derived.Test.YtdphpjlhkamadaaZ38
import Derived.Test.YtdphpjlhkamadaaZ27
import Derived.Test.YtdphpjlhkamadaaTpRefLay
import Derived.Test.YtdphpjlhkamadaaARPut
namespace Go.Proofs.Ytdphpjlhkamadaa
open Go.RowKit Go.Shelf
set_option linter.unusedVariables false
set_option linter.unusedSimpArgs false
set_option maxRecDepth 100000
attribute [local go_sem] Oper.semAt_some undef
theorem share0 {F Q : World → Prop} {P : Prop} (main : Hid (∀ (x : World), F x  → Q x ) → P) (pf : ∀ (x : World), F x  → Q x ) : P := main (Lib.hid pf)
theorem share1 {F Q : World → Value → Prop} {P : Prop} (main : Hid (∀ (x : World) (v0 : Value), F x v0 → Q x v0) → P) (pf : ∀ (x : World) (v0 : Value), F x v0 → Q x v0) : P := main (Lib.hid pf)
theorem share2 {F Q : World → Value → Value → Prop} {P : Prop} (main : Hid (∀ (x : World) (v0 v1 : Value), F x v0 v1 → Q x v0 v1) → P) (pf : ∀ (x : World) (v0 v1 : Value), F x v0 v1 → Q x v0 v1) : P := main (Lib.hid pf)
theorem share3 {F Q : World → Value → Value → Value → Prop} {P : Prop} (main : Hid (∀ (x : World) (v0 v1 v2 : Value), F x v0 v1 v2 → Q x v0 v1 v2) → P) (pf : ∀ (x : World) (v0 v1 v2 : Value), F x v0 v1 v2 → Q x v0 v1 v2) : P := main (Lib.hid pf)
theorem share4 {F Q : World → Value → Value → Value → Value → Prop} {P : Prop} (main : Hid (∀ (x : World) (v0 v1 v2 v3 : Value), F x v0 v1 v2 v3 → Q x v0 v1 v2 v3) → P) (pf : ∀ (x : World) (v0 v1 v2 v3 : Value), F x v0 v1 v2 v3 → Q x v0 v1 v2 v3) : P := main (Lib.hid pf)
theorem share5 {F Q : World → Value → Value → Value → Value → Value → Prop} {P : Prop} (main : Hid (∀ (x : World) (v0 v1 v2 v3 v4 : Value), F x v0 v1 v2 v3 v4 → Q x v0 v1 v2 v3 v4) → P) (pf : ∀ (x : World) (v0 v1 v2 v3 v4 : Value), F x v0 v1 v2 v3 v4 → Q x v0 v1 v2 v3 v4) : P := main (Lib.hid pf)
theorem share6 {F Q : World → Value → Value → Value → Value → Value → Value → Prop} {P : Prop} (main : Hid (∀ (x : World) (v0 v1 v2 v3 v4 v5 : Value), F x v0 v1 v2 v3 v4 v5 → Q x v0 v1 v2 v3 v4 v5) → P) (pf : ∀ (x : World) (v0 v1 v2 v3 v4 v5 : Value), F x v0 v1 v2 v3 v4 v5 → Q x v0 v1 v2 v3 v4 v5) : P := main (Lib.hid pf)
theorem share7 {F Q : World → Value → Value → Value → Value → Value → Value → Value → Prop} {P : Prop} (main : Hid (∀ (x : World) (v0 v1 v2 v3 v4 v5 v6 : Value), F x v0 v1 v2 v3 v4 v5 v6 → Q x v0 v1 v2 v3 v4 v5 v6) → P) (pf : ∀ (x : World) (v0 v1 v2 v3 v4 v5 v6 : Value), F x v0 v1 v2 v3 v4 v5 v6 → Q x v0 v1 v2 v3 v4 v5 v6) : P := main (Lib.hid pf)
theorem Bytes.form2 {w : World} {B : Nat} {v : Value} {l : List Nat} (h : Bytes w B v l) : ∃ A n c, v = .slice A n c := by obtain ⟨A, c, h, _⟩ := h.form; exact ⟨A, _, c, h⟩
theorem num_v (n : Nat) (w : World) (hn : n < 18446744073709551616) : Calls Try.prog 51 #[.int .u64 (n : Int)] w fun e w' => ∃ v, e = .returned v ∧ Bytes w' w'.heap.size v (num n) ∧ Below w.heap.size w w' :=
  (refNum_any n w hn).mono fun e w' ⟨A, m, c, he, hM, hb⟩ => ⟨_, he, hM.bytes, hb⟩
theorem lay2_v (w : World) (s : ByteArray) (hs : s.size ≤ 1000000) : Calls Try.prog 52 #[.agg #[.int .u8 2, .int .u64 0, .string s, .int .u64 0]] w fun e w' => ∃ v, e = .returned v ∧ Bytes w' w'.heap.size v (num s.size ++ str s) ∧ Below w.heap.size w w' :=
  (refLay_any w 2 0 0 s (by omega) (by omega) hs).mono fun e w' ⟨A, m, c, he, hM, hb⟩ => ⟨_, he, by have h := hM.bytes; unfold tp_layF at h; rw [if_neg (by omega), if_pos (by omega), str_length] at h; exact h, hb⟩
theorem lay1_v (w : World) (k : Int) (h1 : -9223372036854775808 ≤ k) (h2 : k ≤ 9223372036854775807) : Calls Try.prog 52 #[.agg #[.int .u8 1, .int .u64 (k % 18446744073709551616), .string ⟨#[]⟩, .int .u64 0]] w fun e w' => ∃ v, e = .returned v ∧ Bytes w' w'.heap.size v (num (zig k)) ∧ Below w.heap.size w w' := by
  obtain ⟨m, hm⟩ : ∃ m : Nat, (m : Int) = k % 18446744073709551616 := ⟨(k % 18446744073709551616).toNat, by omega⟩
  rw [← hm]
  refine (refLay_any w 1 m 0 ⟨#[]⟩ (by omega) (by omega) (by decide)).mono fun e w' ⟨A, n, c, he, hM, hb⟩ => ⟨_, he, ?_, hb⟩
  have h := hM.bytes
  unfold tp_layF at h
  rw [if_pos (by omega)] at h
  rw [show wrap64 (m : Int) = k by unfold wrap64; omega] at h
  exact h
theorem parts_eight {y : World} {v0 v1 v2 v3 v4 v5 v6 v7 : Value} {l0 l1 l2 l3 l4 l5 l6 l7 : List Nat} {B gx : Nat} (hy : y.heap[gx]? = some (.cells #[v0, v1, v2, v3, v4, v5, v6, v7] 42 (0, 0))) (h0 : Bytes y B v0 l0) (h1 : Bytes y B v1 l1) (h2 : Bytes y B v2 l2) (h3 : Bytes y B v3 l3) (h4 : Bytes y B v4 l4) (h5 : Bytes y B v5 l5) (h6 : Bytes y B v6 l6) (h7 : Bytes y B v7 l7) (hB : B ≤ y.heap.size) :
    Parts y y.heap.size (.slice (some ⟨gx, 0, none⟩) 8 8) [l0, l1, l2, l3, l4, l5, l6, l7] := by
  refine parts_block hy (lt_of_heap hy) rfl rfl ?_ (by unfold maxLen; simp)
  intro j u l e1 e3
  match j, e1, e3 with
  | 0, e1, e3 => simp at e1 e3; subst e1 e3; exact h0.up hB
  | 1, e1, e3 => simp at e1 e3; subst e1 e3; exact h1.up hB
  | 2, e1, e3 => simp at e1 e3; subst e1 e3; exact h2.up hB
  | 3, e1, e3 => simp at e1 e3; subst e1 e3; exact h3.up hB
  | 4, e1, e3 => simp at e1 e3; subst e1 e3; exact h4.up hB
  | 5, e1, e3 => simp at e1 e3; subst e1 e3; exact h5.up hB
  | 6, e1, e3 => simp at e1 e3; subst e1 e3; exact h6.up hB
  | 7, e1, e3 => simp at e1 e3; subst e1 e3; exact h7.up hB
  | j + 8, e1, e3 => simp at e1
theorem join_eight (w : World) (v0 v1 v2 v3 v4 v5 v6 v7 : Value) (l0 l1 l2 l3 l4 l5 l6 l7 : List Nat) (h0 : Bytes w w.heap.size v0 l0) (h1 : Bytes w w.heap.size v1 l1) (h2 : Bytes w w.heap.size v2 l2) (h3 : Bytes w w.heap.size v3 l3) (h4 : Bytes w w.heap.size v4 l4) (h5 : Bytes w w.heap.size v5 l5) (h6 : Bytes w w.heap.size v6 l6) (h7 : Bytes w w.heap.size v7 l7) (hl : (l0 ++ (l1 ++ (l2 ++ (l3 ++ (l4 ++ (l5 ++ (l6 ++ (l7)))))))).length ≤ 1048576) :
    Calls Try.prog 24 #[.slice (some ⟨w.heap.size, 0, none⟩) 8 8] (w.alloc (.cells #[v0, v1, v2, v3, v4, v5, v6, v7] 42)) fun e w' => ∃ A n c, e = .returned (.slice A n c) ∧ Mine w' w.heap.size A n c (l0 ++ (l1 ++ (l2 ++ (l3 ++ (l4 ++ (l5 ++ (l6 ++ (l7)))))))) ∧ Below w.heap.size w w' := by
  have hb := (Below.refl w.heap.size w).alloc (Nat.le_refl _) (.cells #[v0, v1, v2, v3, v4, v5, v6, v7] 42)
  have hP := parts_eight (Go.heap_alloc_new w (.cells #[v0, v1, v2, v3, v4, v5, v6, v7] 42)) (h0.below hb) (h1.below hb) (h2.below hb) (h3.below hb) (h4.below hb) (h5.below hb) (h6.below hb) (h7.below hb) (by simp)
  have e : [l0, l1, l2, l3, l4, l5, l6, l7].flatten = l0 ++ (l1 ++ (l2 ++ (l3 ++ (l4 ++ (l5 ++ (l6 ++ (l7))))))) := by simp
  have hJ := join_mine _ _ _ hP (by rw [e]; exact small_append h0.small (small_append h1.small (small_append h2.small (small_append h3.small (small_append h4.small (small_append h5.small (small_append h6.small h7.small))))))) (by rw [e]; exact hl)
  rw [e] at hJ
  exact hJ.mono fun e w' ⟨A, n, c, he, hM, hB⟩ => ⟨A, n, c, he, hM.lower (by simp), below_on hb hB⟩
/-- append(v, p...), v the call's own, p whatever slice of bytes (nil too). -/
theorem wpList_append_bytes {P : Program} {w : World} {ops : Array Oper} {rest : List Oper} {o : Oper} {a : Act} {Q : Exit → Act → World → Prop} (hgd : o.guard = none) (s x : Operand) (t : TypeId)
    (ho : o.op = .call { callee := .builtin .append, args := #[s, x], argTypes := #[t, t] })
    (base : Nat) (e : TypeId) (i : TypeInfo) (z : Value) (ht : P.underlying t = some (.slice e)) (hi : P.info? e = some i) (hz : i.zero = some z)
    (hsize : i.size = 1) (hby : i.bytes = 1) (hzs : z.cells.size = 1)
    (v : Value) (N : Nat) (xs : List Value) (hs : a.eval s = v) (hown : w.ownsRow base e 1 v N xs)
    (A : Option Addr) (n c B : Nat) (l : List Nat) (hx : a.eval x = .slice A n c) (hb : Bytes w B (.slice A n c) l)
    (hmax : N + n ≤ 140737488355328) (hbase : base ≤ w.heap.size)
    (h : ∀ v' w', w'.ownsRow base e 1 v' (N + n) (xs ++ byt l) → w.grownBy w' v.ownBlock → wpList P ops Q rest (a.put o.dst v') w') : wpList P ops Q (o :: rest) a w := by
  obtain ⟨⟨A1, c1, hv, hl, hc, hn⟩, _, _⟩ := hb
  injection hv with h1 h2 h3
  subst h1 h2 h3
  rcases A with _ | ad
  · have hl0 : l = [] := by
      have h1 := hl.empty
      rw [← List.length_eq_zero_iff, ← byt_length, h1]
      rfl
    subst hl0
    have hc0 := hn rfl
    subst hc0
    exact wpList_append_own_none hgd s x t ho base e i 1 ht hi v N xs hs hown hx (h v w (by simpa [byt] using hown) (World.grownBy.refl w _))
  · exact wpList_append_own w hgd s x t ho base e i z 1 1 ht hi hz hsize hby hzs (by decide) v N xs hs hown ad _ c (byt l) hx (by rw [byt_length]; omega) hl.cells (one_byt l) (by unfold maxLen; omega) (by omega) hbase
      (fun v' w' h1 h2 _ => h v' w' h1 h2)
theorem wrap_nat {a : Nat} (ha : a < 18446744073709551616) : IntKind.u64.wrap (a : Int) = (a : Int) := by
  have h1 : IntKind.u64.wrap (a : Int) = (a : Int) % 18446744073709551616 := by first | rfl | (simp [IntKind.wrap]; done) | (unfold IntKind.wrap; rfl)
  rw [h1]
  omega
def RBI (w : World) (ns : List (Nat × Nd)) (N : Nat) (pv bv iv : Value) (wr : World) : Prop :=
  ∃ (k : Nat) (A : Option Addr) (n c : Nat), k ≤ N ∧ iv = .int .i64 (k : Int) ∧ bv = .int .u64 ((lastId 0 (ns.take k) : Nat) : Int) ∧ pv = .slice A n c ∧ Mine wr w.heap.size A n c (num N ++ nodesB 0 (ns.take k)) ∧ Below w.heap.size w wr
theorem RBI.mk {w wr : World} {ns : List (Nat × Nd)} {N n c : Nat} {A : Option Addr} {bv : Value} (k : Nat) (h1 : k ≤ N) (hb : bv = .int .u64 ((lastId 0 (ns.take k) : Nat) : Int)) (h2 : Mine wr w.heap.size A n c (num N ++ nodesB 0 (ns.take k))) (h3 : Below w.heap.size w wr) : RBI w ns N (.slice A n c) bv (.int .i64 (k : Int)) wr := ⟨k, A, n, c, h1, rfl, hb, rfl, h2, h3⟩
def RKI (wk : World) (pre : List Nat) (ks : List Nat) (K : Nat) (pv iv : Value) (wr : World) : Prop :=
  ∃ (k : Nat) (A : Option Addr) (n c : Nat), k ≤ K ∧ iv = .int .i64 (k : Int) ∧ pv = .slice A n c ∧ Mine wr wk.heap.size A n c (pre ++ (ks.take k).flatMap num) ∧ Below wk.heap.size wk wr
theorem RKI.mk {wk wr : World} {pre ks : List Nat} {K n c : Nat} {A : Option Addr} (k : Nat) (h1 : k ≤ K) (h2 : Mine wr wk.heap.size A n c (pre ++ (ks.take k).flatMap num)) (h3 : Below wk.heap.size wk wr) : RKI wk pre ks K (.slice A n c) (.int .i64 (k : Int)) wr := ⟨k, A, n, c, h1, rfl, rfl, h2, h3⟩
theorem xNs_get {xs : XL} {k : Nat} {p : Nat × (Value × Nd)} (h : xs[k]? = some p) : (xNs xs)[k]? = some (p.1, p.2.2) := by unfold xNs mapL; rw [List.getElem?_map, h]; rfl
theorem xNs_size (xs : XL) : (xNs xs).length = xs.length := by unfold xNs mapL; rw [List.length_map]
set_option maxHeartbeats 40000000 in
theorem rbytes_any (w : World) (base N c : Nat) (A : Option Addr) (xs : XL) (h : XR w base (.slice A N c) xs) (hN : N = xs.length) (hNb : N ≤ 1000) (hr : Rise (xNs xs)) (hl : (arenaB (xNs xs)).length ≤ 1000000) :
    Calls Try.prog 22 #[.slice A N c] w (fun e w' => ∃ A n c, e = .returned (.slice A n c) ∧ Mine w' w.heap.size A n c (arenaB (xNs xs)) ∧ Below w.heap.size w w') := by
  obtain ⟨i0, hi0, hz0, hs0, hb0⟩ := info_parts infoByte
  obtain ⟨ns, hns⟩ : ∃ ns, ns = xNs xs := ⟨_, rfl⟩
  rw [← hns] at hr hl ⊢
  have hnl : N = ns.length := by rw [hns, xNs_size]; exact hN
  have hlen : (num N).length + (nodesB 0 ns).length ≤ 1000000 := by unfold arenaB at hl; rw [List.length_append, ← hnl] at hl; exact hl
  have HNUM := Lib.hid (refNum_any N w (by omega))
  have HX := Lib.hid h
  have HN := Lib.hid hN
  have HNS := Lib.hid hns
  have HNL := Lib.hid hnl
  have HR := Lib.hid hr
  have HL := Lib.hid hlen
  have HI := Lib.hid hi0
  have H0 := Lib.hid hz0
  have H1 := Lib.hid hs0
  have H2 := Lib.hid hb0
  clear h hN hr hl hns hnl hlen hi0 hz0 hs0 hb0
  go_enter Try.func22, Try.ntmps22
  go_wp2_with (go_at_call 51; (with_reducible refine (HNUM.out).mono ?_); rintro e w1 ⟨A1, n1, c1, rfl, hM1, hb1⟩; go_loud (
    have HM1 := Lib.hid hM1;
    have HB1 := Lib.hid hb1;
    clear hM1 hb1))
  go_loopw [3, 4, 16] (fun pv bv iv wr => RBI w ns N pv bv iv wr) (fun _ _ iv _ => N - (intOf iv).toNat)
  case atStart => exact RBI.mk 0 (Nat.zero_le _) rfl (by simpa [nodesB] using HM1.out) HB1.out
  case round =>
    rename World => wo
    obtain ⟨k, Ao, no, co, hk, rfl, rfl, rfl, hmo, hb⟩ := hrel
    have HMO := Lib.hid hmo
    have HB := Lib.hid hb
    clear hmo hb
    by_cases hlt : k < N
    · have hltI : (k : Int) < (N : Int) := by omega
      obtain ⟨p, hp⟩ : ∃ p, xs[k]? = some p := by rw [HN.out] at hlt; exact ⟨_, List.getElem?_eq_getElem hlt⟩
      obtain ⟨g, Ap, cp, hA, hgb, hpv, hpi, hpo, e0, e1, e2, e3, e4, e5, e6⟩ := (HX.out.below HB.out).at_ hp
      have hpx := HX.out.small p (List.mem_of_getElem? hp)
      have hpn : ns[k]? = some (p.1, p.2.2) := by rw [HNS.out]; exact xNs_get hp
      obtain ⟨pid, pv, pn⟩ := p
      dsimp only at hpv hpi hpo e0 e1 e2 e3 e4 e5 e6 hpx hpn
      obtain ⟨bf, hbf⟩ : ∃ bf, bf = lastId 0 (ns.take k) := ⟨_, rfl⟩
      have hble : bf ≤ pid := by rw [hbf]; exact lastId_le _ _ _ (Nat.zero_le _) (take_lt HR.out hpn)
      have hwsub := wrap_sub hble hpx
      have hpb : pid - bf < 18446744073709551616 := by omega
      have hk1e : ns.take (k + 1) = ns.take k ++ [(pid, pn)] := by
        have h1 := (List.getElem?_eq_some_iff.1 hpn)
        rw [List.take_succ_eq_append_getElem h1.1, h1.2]
      have hlen : (num N).length + (nodesB 0 (ns.take k)).length + (num (pid - bf)).length + (nodeB pn).length ≤ 1000000 := by
        have h1 := nodesB_take ns (k + 1)
        rw [hk1e, nodesB_snoc, List.length_append, List.length_append] at h1
        have h2 := HL.out
        dsimp only at h1
        rw [← hbf] at h1
        omega
      have hnb : nodeB pn = [pn.kind] ++ (num pn.name.size ++ str pn.name) ++ num (zig pn.num) ++ [pn.typ] ++ num pn.ref ++ num pn.kids.length ++ pn.kids.flatMap num := rfl
      have hpkd := hpo.kind
      have hpty := hpo.typ
      have hpn1 := hpo.num.1
      have hpn2 := hpo.num.2
      have hpr := hpo.ref
      have hps : pn.name.size ≤ 1000000 := by rw [hnb] at hlen; simp only [List.length_append, str_length] at hlen; omega
      obtain ⟨kl, hkl⟩ : ∃ kl, kl = pn.kids.length := ⟨_, rfl⟩
      have hkb : kl ≤ 1000000000 := by rw [hkl]; exact hpi.long
      have HKW := Lib.hid (wrap_nat (a := kl) (by omega))
      rw [← hkl] at hpi e6
      rw [← hbf] 
      subst hA
      have HPI := Lib.hid hpi
      have HBF := Lib.hid hbf
      have HK1 := Lib.hid hk1e
      have HLEN := Lib.hid hlen
      have HKL := Lib.hid hkl
      have HKS := Lib.hid hpi.small
      have HNBE := Lib.hid hnb
      clear hp hpn hpi hpo hpv hbf hk1e hlen hkl hble hnb
      go_wp2_with fail
      obtain ⟨wk, hwk⟩ : ∃ wk, wk = (wo.alloc (.cells #[.int .u64 (pid : Int), .int .u8 (pn.kind : Int), .string pn.name, .int .i64 pn.num, .int .u8 (pn.typ : Int), .int .u64 (pn.ref : Int), .slice Ap kl cp] 69)).alloc (.cells #[.int .u8 (pn.kind : Int), .string pn.name, .int .i64 pn.num, .int .u8 (pn.typ : Int), .int .u64 (pn.ref : Int), .slice Ap kl cp] 33) := ⟨_, rfl⟩
      rw [← hwk]
      have hbk : Below wo.heap.size wo wk := by rw [hwk]; exact ((Below.refl _ _).alloc (Nat.le_refl _) _).alloc (by simp) _
      have hg1 : wk.heap[wo.heap.size]? = some (.cells #[.int .u64 (pid : Int), .int .u8 (pn.kind : Int), .string pn.name, .int .i64 pn.num, .int .u8 (pn.typ : Int), .int .u64 (pn.ref : Int), .slice Ap kl cp] 69 (0, 0)) := by rw [hwk]; exact (((Below.refl (wo.alloc (.cells #[.int .u64 (pid : Int), .int .u8 (pn.kind : Int), .string pn.name, .int .i64 pn.num, .int .u8 (pn.typ : Int), .int .u64 (pn.ref : Int), .slice Ap kl cp] 69)).heap.size (wo.alloc (.cells #[.int .u64 (pid : Int), .int .u8 (pn.kind : Int), .string pn.name, .int .i64 pn.num, .int .u8 (pn.typ : Int), .int .u64 (pn.ref : Int), .slice Ap kl cp] 69))).alloc (Nat.le_refl _) (.cells #[.int .u8 (pn.kind : Int), .string pn.name, .int .i64 pn.num, .int .u8 (pn.typ : Int), .int .u64 (pn.ref : Int), .slice Ap kl cp] 33)).block wo.heap.size (by simp)).trans (Go.heap_alloc_new _ _)
      have hg2 : wk.heap[wo.heap.size + 1]? = some (.cells #[.int .u8 (pn.kind : Int), .string pn.name, .int .i64 pn.num, .int .u8 (pn.typ : Int), .int .u64 (pn.ref : Int), .slice Ap kl cp] 33 (0, 0)) := by rw [hwk, show wo.heap.size + 1 = (wo.alloc (.cells #[.int .u64 (pid : Int), .int .u8 (pn.kind : Int), .string pn.name, .int .i64 pn.num, .int .u8 (pn.typ : Int), .int .u64 (pn.ref : Int), .slice Ap kl cp] 69)).heap.size by simp]; exact Go.heap_alloc_new _ _
      have HSK := Lib.hid (show ∀ x, Below wk.heap.size wk x → (Below wk.heap.size wk x ∧ x.cell? ⟨wo.heap.size, 0, none⟩ = some (.int .u64 (pid : Int)) ∧ x.cell? ⟨wo.heap.size + 1, 0, none⟩ = some (.int .u8 (pn.kind : Int)) ∧ x.cell? ⟨wo.heap.size + 1, 1, none⟩ = some (.string pn.name) ∧ x.cell? ⟨wo.heap.size + 1, 2, none⟩ = some (.int .i64 pn.num) ∧ x.cell? ⟨wo.heap.size + 1, 3, none⟩ = some (.int .u8 (pn.typ : Int)) ∧ x.cell? ⟨wo.heap.size + 1, 4, none⟩ = some (.int .u64 (pn.ref : Int)) ∧ x.cell? ⟨wo.heap.size + 1, 5, none⟩ = some (.slice Ap kl cp)) from fun x hx => by
        have z := box7 (n := pn) ((hx.block _ (lt_of_heap2 hg1)).trans hg1)
        have z2 := box_cells ((hx.block _ (lt_of_heap2 hg2)).trans hg2)
        exact ⟨hx, z.1, z2.1, z2.2.1, z2.2.2.1, z2.2.2.2.1, z2.2.2.2.2.1, z2.2.2.2.2.2.1⟩)
      have HBK := Lib.hid hbk
      have HP0 : Hid (∀ x, Below wk.heap.size wk x → Bytes x x.heap.size (.slice Ao no co) (num N ++ nodesB 0 (ns.take k))) := Lib.hid fun x hx => ((HMO.out.bytes.below hbk).up hbk.size).along hx
      have HJL : Hid (((num N ++ nodesB 0 (ns.take k)) ++ ((num (pid - bf)) ++ (([pn.kind]) ++ ((num pn.name.size ++ str pn.name) ++ ((num (zig pn.num)) ++ (([pn.typ]) ++ ((num pn.ref) ++ ((num kl))))))))).length ≤ 1048576) := Lib.hid (by
        have h1 := HLEN.out
        rw [HNBE.out] at h1
        simp only [List.length_append, List.length_cons, List.length_nil, str_length, ← HKL.out] at h1 ⊢
        omega)
      clear hbk hg1 hg2 hwk
      refine wp_region_noPanic ?_
      refine wp_region_held_drew (S := fun x => Below wk.heap.size wk x ∧ x.cell? ⟨wo.heap.size, 0, none⟩ = some (.int .u64 (pid : Int)) ∧ x.cell? ⟨wo.heap.size + 1, 0, none⟩ = some (.int .u8 (pn.kind : Int)) ∧ x.cell? ⟨wo.heap.size + 1, 1, none⟩ = some (.string pn.name) ∧ x.cell? ⟨wo.heap.size + 1, 2, none⟩ = some (.int .i64 pn.num) ∧ x.cell? ⟨wo.heap.size + 1, 3, none⟩ = some (.int .u8 (pn.typ : Int)) ∧ x.cell? ⟨wo.heap.size + 1, 4, none⟩ = some (.int .u64 (pn.ref : Int)) ∧ x.cell? ⟨wo.heap.size + 1, 5, none⟩ = some (.slice Ap kl cp)) (by kernel_rfl) (HSK.out _ (ride_drew (Below.refl _ _))) (fun hHeld => ?_)
      refine take_at (i := 0) (v := ?_) (some 22) rfl rfl (by kernel_rfl) (by kernel_rfl) (by kernel_rfl) (fun _ _ _ h => h) (Or.inl ⟨by rfl, ?_⟩) (by assumption) ?_
      rotate_left
      · intro w hSw
        obtain ⟨hSb, z0, z1, z2, z3, z4, z5, z6⟩ := hSw
        first | (go_simp; done) | (go_simp; with_reducible rfl)
      try simp only [Act.put, List.setIfInBounds_toArray, List.set_cons_zero, List.set_cons_succ]
      refine take_at (i := 1) (v := ?_) (some 23) rfl rfl (by kernel_rfl) (by kernel_rfl) (by kernel_rfl) (fun _ _ _ h => h) (Or.inl ⟨by rfl, ?_⟩) (by assumption) ?_
      rotate_left
      · intro w hSw
        obtain ⟨hSb, z0, z1, z2, z3, z4, z5, z6⟩ := hSw
        first | (go_simp; done) | (go_simp; with_reducible rfl)
      try simp only [Act.put, List.setIfInBounds_toArray, List.set_cons_zero, List.set_cons_succ]
      refine take_at (i := 2) (v := ?_) (some 24) rfl rfl (by kernel_rfl) (by kernel_rfl) (by kernel_rfl) (fun _ _ _ h => h) (Or.inl ⟨by rfl, ?_⟩) (by assumption) ?_
      rotate_left
      · intro w hSw
        obtain ⟨hSb, z0, z1, z2, z3, z4, z5, z6⟩ := hSw
        first | (go_simp; done) | (go_simp; with_reducible rfl)
      try simp only [Act.put, List.setIfInBounds_toArray, List.set_cons_zero, List.set_cons_succ]
      refine take_at (i := 3) (v := ?_) (some 25) rfl rfl (by kernel_rfl) (by kernel_rfl) (by kernel_rfl) (fun _ _ _ h => h) (Or.inl ⟨by rfl, ?_⟩) (by assumption) ?_
      rotate_left
      · intro w hSw
        obtain ⟨hSb, z0, z1, z2, z3, z4, z5, z6⟩ := hSw
        first | (go_simp; done) | (go_simp; with_reducible rfl)
      try simp only [Act.put, List.setIfInBounds_toArray, List.set_cons_zero, List.set_cons_succ]
      refine take_at (i := 4) (v := ?_) (some 26) rfl rfl (by kernel_rfl) (by kernel_rfl) (by kernel_rfl) (fun _ _ _ h => h) (Or.inl ⟨by rfl, ?_⟩) (by assumption) ?_
      rotate_left
      · intro w hSw
        obtain ⟨hSb, z0, z1, z2, z3, z4, z5, z6⟩ := hSw
        first | (go_simp; done) | (go_simp; with_reducible rfl)
      try simp only [Act.put, List.setIfInBounds_toArray, List.set_cons_zero, List.set_cons_succ]
      refine take_at (i := 6) (v := ?_) (some 28) rfl rfl (by kernel_rfl) (by kernel_rfl) (by kernel_rfl) (fun _ _ _ h => h) (Or.inl ⟨by rfl, ?_⟩) (by assumption) ?_
      rotate_left
      · intro w hSw
        obtain ⟨hSb, z0, z1, z2, z3, z4, z5, z6⟩ := hSw
        first | (go_simp; done) | (go_simp; with_reducible rfl)
      try simp only [Act.put, List.setIfInBounds_toArray, List.set_cons_zero, List.set_cons_succ]
      refine take_at (i := 7) (v := ?_) (some 29) rfl rfl (by kernel_rfl) (by kernel_rfl) (by kernel_rfl) (fun _ _ _ h => h) (Or.inl ⟨by rfl, ?_⟩) (by assumption) ?_
      rotate_left
      · intro w hSw
        obtain ⟨hSb, z0, z1, z2, z3, z4, z5, z6⟩ := hSw
        first | (go_simp; done) | (go_simp; with_reducible rfl)
      try simp only [Act.put, List.setIfInBounds_toArray, List.set_cons_zero, List.set_cons_succ]
      refine take_at (i := 9) (v := ?_) (some 31) rfl rfl (by kernel_rfl) (by kernel_rfl) (by kernel_rfl) (fun _ _ _ h => h) (Or.inl ⟨by rfl, ?_⟩) (by assumption) ?_
      rotate_left
      · intro w hSw
        obtain ⟨hSb, z0, z1, z2, z3, z4, z5, z6⟩ := hSw
        first | (go_simp; done) | (go_simp; with_reducible rfl)
      try simp only [Act.put, List.setIfInBounds_toArray, List.set_cons_zero, List.set_cons_succ]
      refine take_at (i := 10) (v := ?_) (some 32) rfl rfl (by kernel_rfl) (by kernel_rfl) (by kernel_rfl) (fun _ _ _ h => h) (Or.inl ⟨by rfl, ?_⟩) (by assumption) ?_
      rotate_left
      · intro w hSw
        obtain ⟨hSb, z0, z1, z2, z3, z4, z5, z6⟩ := hSw
        first | (go_simp; done) | (go_simp; with_reducible rfl)
      try simp only [Act.put, List.setIfInBounds_toArray, List.set_cons_zero, List.set_cons_succ]
      refine take_at (i := 11) (v := ?_) (some 33) rfl rfl (by kernel_rfl) (by kernel_rfl) (by kernel_rfl) (fun _ _ _ h => h) (Or.inl ⟨by rfl, ?_⟩) (by assumption) ?_
      rotate_left
      · intro w hSw
        obtain ⟨hSb, z0, z1, z2, z3, z4, z5, z6⟩ := hSw
        first | (go_simp; done) | (go_simp; with_reducible rfl)
      try simp only [Act.put, List.setIfInBounds_toArray, List.set_cons_zero, List.set_cons_succ]
      refine take_at (i := 13) (v := ?_) (some 35) rfl rfl (by kernel_rfl) (by kernel_rfl) (by kernel_rfl) (fun _ _ _ h => h) (Or.inl ⟨by rfl, ?_⟩) (by assumption) ?_
      rotate_left
      · intro w hSw
        obtain ⟨hSb, z0, z1, z2, z3, z4, z5, z6⟩ := hSw
        first | (go_simp; done) | (go_simp; with_reducible rfl)
      try simp only [Act.put, List.setIfInBounds_toArray, List.set_cons_zero, List.set_cons_succ]
      refine take_at (i := 14) (v := ?_) (some 36) rfl rfl (by kernel_rfl) (by kernel_rfl) (by kernel_rfl) (fun _ _ _ h => h) (Or.inl ⟨by rfl, ?_⟩) (by assumption) ?_
      rotate_left
      · intro w hSw
        obtain ⟨hSb, z0, z1, z2, z3, z4, z5, z6⟩ := hSw
        first | (go_simp; done) | (go_simp; with_reducible rfl)
      try simp only [Act.put, List.setIfInBounds_toArray, List.set_cons_zero, List.set_cons_succ]
      refine take_at (i := 15) (v := ?_) (some 37) rfl rfl (by kernel_rfl) (by kernel_rfl) (by kernel_rfl) (fun _ _ _ h => h) (Or.inl ⟨by rfl, ?_⟩) (by assumption) ?_
      rotate_left
      · intro w hSw
        obtain ⟨hSb, z0, z1, z2, z3, z4, z5, z6⟩ := hSw
        first | (go_simp; done) | (go_simp; with_reducible rfl)
      try simp only [Act.put, List.setIfInBounds_toArray, List.set_cons_zero, List.set_cons_succ]
      refine take_at (i := 16) (v := ?_) (some 38) rfl rfl (by kernel_rfl) (by kernel_rfl) (by kernel_rfl) (fun _ _ _ h => h) (Or.inl ⟨by rfl, ?_⟩) (by assumption) ?_
      rotate_left
      · intro w hSw
        obtain ⟨hSb, z0, z1, z2, z3, z4, z5, z6⟩ := hSw
        first | (go_simp; done) | (go_simp; with_reducible rfl)
      try simp only [Act.put, List.setIfInBounds_toArray, List.set_cons_zero, List.set_cons_succ]
      refine take_at (i := 18) (v := ?_) (some 40) rfl rfl (by kernel_rfl) (by kernel_rfl) (by kernel_rfl) (fun _ _ _ h => h) (Or.inl ⟨by rfl, ?_⟩) (by assumption) ?_
      rotate_left
      · intro w hSw
        obtain ⟨hSb, z0, z1, z2, z3, z4, z5, z6⟩ := hSw
        first | (go_simp; done) | (go_simp; with_reducible rfl)
      try simp only [Act.put, List.setIfInBounds_toArray, List.set_cons_zero, List.set_cons_succ]
      refine take_at (i := 19) (v := ?_) (some 41) rfl rfl (by kernel_rfl) (by kernel_rfl) (by kernel_rfl) (fun _ _ _ h => h) (Or.inl ⟨by rfl, ?_⟩) (by assumption) ?_
      rotate_left
      · intro w hSw
        obtain ⟨hSb, z0, z1, z2, z3, z4, z5, z6⟩ := hSw
        first | (go_simp; done) | (go_simp; with_reducible rfl)
      try simp only [Act.put, List.setIfInBounds_toArray, List.set_cons_zero, List.set_cons_succ]
      refine take_at (i := 21) (v := ?_) (some 43) rfl rfl (by kernel_rfl) (by kernel_rfl) (by kernel_rfl) (fun _ _ _ h => h) (Or.inl ⟨by rfl, ?_⟩) (by assumption) ?_
      rotate_left
      · intro w hSw
        obtain ⟨hSb, z0, z1, z2, z3, z4, z5, z6⟩ := hSw
        first | (go_simp; done) | (go_simp; with_reducible rfl)
      try simp only [Act.put, List.setIfInBounds_toArray, List.set_cons_zero, List.set_cons_succ]
      refine take_at (i := 22) (v := ?_) (some 44) rfl rfl (by kernel_rfl) (by kernel_rfl) (by kernel_rfl) (fun _ _ _ h => h) (Or.inl ⟨by rfl, ?_⟩) (by assumption) ?_
      rotate_left
      · intro w hSw
        obtain ⟨hSb, z0, z1, z2, z3, z4, z5, z6⟩ := hSw
        first | (go_simp; done) | (go_simp; with_reducible rfl)
      try simp only [Act.put, List.setIfInBounds_toArray, List.set_cons_zero, List.set_cons_succ]
      refine take_at (i := 24) (v := ?_) (some 46) rfl rfl (by kernel_rfl) (by kernel_rfl) (by kernel_rfl) (fun _ _ _ h => h) (Or.inl ⟨by rfl, ?_⟩) (by assumption) ?_
      rotate_left
      · intro w hSw
        obtain ⟨hSb, z0, z1, z2, z3, z4, z5, z6⟩ := hSw
        first | (go_simp; done) | (go_simp; with_reducible rfl)
      try simp only [Act.put, List.setIfInBounds_toArray, List.set_cons_zero, List.set_cons_succ]
      refine take_at (i := 25) (v := ?_) (some 47) rfl rfl (by kernel_rfl) (by kernel_rfl) (by kernel_rfl) (fun _ _ _ h => h) (Or.inl ⟨by rfl, ?_⟩) (by assumption) ?_
      rotate_left
      · intro w hSw
        obtain ⟨hSb, z0, z1, z2, z3, z4, z5, z6⟩ := hSw
        first | (go_simp; done) | (go_simp; with_reducible rfl)
      try simp only [Act.put, List.setIfInBounds_toArray, List.set_cons_zero, List.set_cons_succ]
      refine take_at (i := 26) (v := ?_) (some 48) rfl rfl (by kernel_rfl) (by kernel_rfl) (by kernel_rfl) (fun _ _ _ h => h) (Or.inl ⟨by rfl, ?_⟩) (by assumption) ?_
      rotate_left
      · intro w hSw
        obtain ⟨hSb, z0, z1, z2, z3, z4, z5, z6⟩ := hSw
        first | (go_simp; done) | (go_simp; with_reducible rfl)
      try simp only [Act.put, List.setIfInBounds_toArray, List.set_cons_zero, List.set_cons_succ]
      refine take_at (i := 27) (v := ?_) (some 49) rfl rfl (by kernel_rfl) (by kernel_rfl) (by kernel_rfl) (fun _ _ _ h => h) (Or.inl ⟨by rfl, ?_⟩) (by assumption) ?_
      rotate_left
      · intro w hSw
        obtain ⟨hSb, z0, z1, z2, z3, z4, z5, z6⟩ := hSw
        first | (go_simp; done) | (go_simp; with_reducible rfl)
      try simp only [Act.put, List.setIfInBounds_toArray, List.set_cons_zero, List.set_cons_succ]
      apply share7 (F := fun (x : World) (v5 v8 v12 v17 v20 v23 v28 : Value) => (Below wk.heap.size wk x ∧ x.cell? ⟨wo.heap.size, 0, none⟩ = some (.int .u64 (pid : Int)) ∧ x.cell? ⟨wo.heap.size + 1, 0, none⟩ = some (.int .u8 (pn.kind : Int)) ∧ x.cell? ⟨wo.heap.size + 1, 1, none⟩ = some (.string pn.name) ∧ x.cell? ⟨wo.heap.size + 1, 2, none⟩ = some (.int .i64 pn.num) ∧ x.cell? ⟨wo.heap.size + 1, 3, none⟩ = some (.int .u8 (pn.typ : Int)) ∧ x.cell? ⟨wo.heap.size + 1, 4, none⟩ = some (.int .u64 (pn.ref : Int)) ∧ x.cell? ⟨wo.heap.size + 1, 5, none⟩ = some (.slice Ap kl cp)) ∧ Bytes x x.heap.size v5 (num (pid - bf)) ∧ Bytes x x.heap.size v8 ([pn.kind]) ∧ Bytes x x.heap.size v12 (num pn.name.size ++ str pn.name) ∧ Bytes x x.heap.size v17 (num (zig pn.num)) ∧ Bytes x x.heap.size v20 ([pn.typ]) ∧ Bytes x x.heap.size v23 (num pn.ref) ∧ Bytes x x.heap.size v28 (num kl))
      · intro L5_8_12_17_20_23_28
        apply share6 (F := fun (x : World) (v5 v12 v17 v20 v23 v28 : Value) => (Below wk.heap.size wk x ∧ x.cell? ⟨wo.heap.size, 0, none⟩ = some (.int .u64 (pid : Int)) ∧ x.cell? ⟨wo.heap.size + 1, 0, none⟩ = some (.int .u8 (pn.kind : Int)) ∧ x.cell? ⟨wo.heap.size + 1, 1, none⟩ = some (.string pn.name) ∧ x.cell? ⟨wo.heap.size + 1, 2, none⟩ = some (.int .i64 pn.num) ∧ x.cell? ⟨wo.heap.size + 1, 3, none⟩ = some (.int .u8 (pn.typ : Int)) ∧ x.cell? ⟨wo.heap.size + 1, 4, none⟩ = some (.int .u64 (pn.ref : Int)) ∧ x.cell? ⟨wo.heap.size + 1, 5, none⟩ = some (.slice Ap kl cp)) ∧ Bytes x x.heap.size v5 (num (pid - bf)) ∧ Bytes x x.heap.size v12 (num pn.name.size ++ str pn.name) ∧ Bytes x x.heap.size v17 (num (zig pn.num)) ∧ Bytes x x.heap.size v20 ([pn.typ]) ∧ Bytes x x.heap.size v23 (num pn.ref) ∧ Bytes x x.heap.size v28 (num kl))
        · intro L5_12_17_20_23_28
          apply share6 (F := fun (x : World) (v5 v8 v12 v17 v23 v28 : Value) => (Below wk.heap.size wk x ∧ x.cell? ⟨wo.heap.size, 0, none⟩ = some (.int .u64 (pid : Int)) ∧ x.cell? ⟨wo.heap.size + 1, 0, none⟩ = some (.int .u8 (pn.kind : Int)) ∧ x.cell? ⟨wo.heap.size + 1, 1, none⟩ = some (.string pn.name) ∧ x.cell? ⟨wo.heap.size + 1, 2, none⟩ = some (.int .i64 pn.num) ∧ x.cell? ⟨wo.heap.size + 1, 3, none⟩ = some (.int .u8 (pn.typ : Int)) ∧ x.cell? ⟨wo.heap.size + 1, 4, none⟩ = some (.int .u64 (pn.ref : Int)) ∧ x.cell? ⟨wo.heap.size + 1, 5, none⟩ = some (.slice Ap kl cp)) ∧ Bytes x x.heap.size v5 (num (pid - bf)) ∧ Bytes x x.heap.size v8 ([pn.kind]) ∧ Bytes x x.heap.size v12 (num pn.name.size ++ str pn.name) ∧ Bytes x x.heap.size v17 (num (zig pn.num)) ∧ Bytes x x.heap.size v23 (num pn.ref) ∧ Bytes x x.heap.size v28 (num kl))
          · intro L5_8_12_17_23_28
            apply share6 (F := fun (x : World) (v5 v8 v12 v17 v20 v23 : Value) => (Below wk.heap.size wk x ∧ x.cell? ⟨wo.heap.size, 0, none⟩ = some (.int .u64 (pid : Int)) ∧ x.cell? ⟨wo.heap.size + 1, 0, none⟩ = some (.int .u8 (pn.kind : Int)) ∧ x.cell? ⟨wo.heap.size + 1, 1, none⟩ = some (.string pn.name) ∧ x.cell? ⟨wo.heap.size + 1, 2, none⟩ = some (.int .i64 pn.num) ∧ x.cell? ⟨wo.heap.size + 1, 3, none⟩ = some (.int .u8 (pn.typ : Int)) ∧ x.cell? ⟨wo.heap.size + 1, 4, none⟩ = some (.int .u64 (pn.ref : Int)) ∧ x.cell? ⟨wo.heap.size + 1, 5, none⟩ = some (.slice Ap kl cp)) ∧ Bytes x x.heap.size v5 (num (pid - bf)) ∧ Bytes x x.heap.size v8 ([pn.kind]) ∧ Bytes x x.heap.size v12 (num pn.name.size ++ str pn.name) ∧ Bytes x x.heap.size v17 (num (zig pn.num)) ∧ Bytes x x.heap.size v20 ([pn.typ]) ∧ Bytes x x.heap.size v23 (num pn.ref))
            · intro L5_8_12_17_20_23
              apply share5 (F := fun (x : World) (v5 v12 v17 v23 v28 : Value) => (Below wk.heap.size wk x ∧ x.cell? ⟨wo.heap.size, 0, none⟩ = some (.int .u64 (pid : Int)) ∧ x.cell? ⟨wo.heap.size + 1, 0, none⟩ = some (.int .u8 (pn.kind : Int)) ∧ x.cell? ⟨wo.heap.size + 1, 1, none⟩ = some (.string pn.name) ∧ x.cell? ⟨wo.heap.size + 1, 2, none⟩ = some (.int .i64 pn.num) ∧ x.cell? ⟨wo.heap.size + 1, 3, none⟩ = some (.int .u8 (pn.typ : Int)) ∧ x.cell? ⟨wo.heap.size + 1, 4, none⟩ = some (.int .u64 (pn.ref : Int)) ∧ x.cell? ⟨wo.heap.size + 1, 5, none⟩ = some (.slice Ap kl cp)) ∧ Bytes x x.heap.size v5 (num (pid - bf)) ∧ Bytes x x.heap.size v12 (num pn.name.size ++ str pn.name) ∧ Bytes x x.heap.size v17 (num (zig pn.num)) ∧ Bytes x x.heap.size v23 (num pn.ref) ∧ Bytes x x.heap.size v28 (num kl))
              · intro L5_12_17_23_28
                apply share5 (F := fun (x : World) (v5 v12 v17 v20 v23 : Value) => (Below wk.heap.size wk x ∧ x.cell? ⟨wo.heap.size, 0, none⟩ = some (.int .u64 (pid : Int)) ∧ x.cell? ⟨wo.heap.size + 1, 0, none⟩ = some (.int .u8 (pn.kind : Int)) ∧ x.cell? ⟨wo.heap.size + 1, 1, none⟩ = some (.string pn.name) ∧ x.cell? ⟨wo.heap.size + 1, 2, none⟩ = some (.int .i64 pn.num) ∧ x.cell? ⟨wo.heap.size + 1, 3, none⟩ = some (.int .u8 (pn.typ : Int)) ∧ x.cell? ⟨wo.heap.size + 1, 4, none⟩ = some (.int .u64 (pn.ref : Int)) ∧ x.cell? ⟨wo.heap.size + 1, 5, none⟩ = some (.slice Ap kl cp)) ∧ Bytes x x.heap.size v5 (num (pid - bf)) ∧ Bytes x x.heap.size v12 (num pn.name.size ++ str pn.name) ∧ Bytes x x.heap.size v17 (num (zig pn.num)) ∧ Bytes x x.heap.size v20 ([pn.typ]) ∧ Bytes x x.heap.size v23 (num pn.ref))
                · intro L5_12_17_20_23
                  apply share5 (F := fun (x : World) (v5 v8 v12 v17 v23 : Value) => (Below wk.heap.size wk x ∧ x.cell? ⟨wo.heap.size, 0, none⟩ = some (.int .u64 (pid : Int)) ∧ x.cell? ⟨wo.heap.size + 1, 0, none⟩ = some (.int .u8 (pn.kind : Int)) ∧ x.cell? ⟨wo.heap.size + 1, 1, none⟩ = some (.string pn.name) ∧ x.cell? ⟨wo.heap.size + 1, 2, none⟩ = some (.int .i64 pn.num) ∧ x.cell? ⟨wo.heap.size + 1, 3, none⟩ = some (.int .u8 (pn.typ : Int)) ∧ x.cell? ⟨wo.heap.size + 1, 4, none⟩ = some (.int .u64 (pn.ref : Int)) ∧ x.cell? ⟨wo.heap.size + 1, 5, none⟩ = some (.slice Ap kl cp)) ∧ Bytes x x.heap.size v5 (num (pid - bf)) ∧ Bytes x x.heap.size v8 ([pn.kind]) ∧ Bytes x x.heap.size v12 (num pn.name.size ++ str pn.name) ∧ Bytes x x.heap.size v17 (num (zig pn.num)) ∧ Bytes x x.heap.size v23 (num pn.ref))
                  · intro L5_8_12_17_23
                    apply share5 (F := fun (x : World) (v5 v8 v12 v17 v20 : Value) => (Below wk.heap.size wk x ∧ x.cell? ⟨wo.heap.size, 0, none⟩ = some (.int .u64 (pid : Int)) ∧ x.cell? ⟨wo.heap.size + 1, 0, none⟩ = some (.int .u8 (pn.kind : Int)) ∧ x.cell? ⟨wo.heap.size + 1, 1, none⟩ = some (.string pn.name) ∧ x.cell? ⟨wo.heap.size + 1, 2, none⟩ = some (.int .i64 pn.num) ∧ x.cell? ⟨wo.heap.size + 1, 3, none⟩ = some (.int .u8 (pn.typ : Int)) ∧ x.cell? ⟨wo.heap.size + 1, 4, none⟩ = some (.int .u64 (pn.ref : Int)) ∧ x.cell? ⟨wo.heap.size + 1, 5, none⟩ = some (.slice Ap kl cp)) ∧ Bytes x x.heap.size v5 (num (pid - bf)) ∧ Bytes x x.heap.size v8 ([pn.kind]) ∧ Bytes x x.heap.size v12 (num pn.name.size ++ str pn.name) ∧ Bytes x x.heap.size v17 (num (zig pn.num)) ∧ Bytes x x.heap.size v20 ([pn.typ]))
                    · intro L5_8_12_17_20
                      apply share4 (F := fun (x : World) (v5 v12 v17 v23 : Value) => (Below wk.heap.size wk x ∧ x.cell? ⟨wo.heap.size, 0, none⟩ = some (.int .u64 (pid : Int)) ∧ x.cell? ⟨wo.heap.size + 1, 0, none⟩ = some (.int .u8 (pn.kind : Int)) ∧ x.cell? ⟨wo.heap.size + 1, 1, none⟩ = some (.string pn.name) ∧ x.cell? ⟨wo.heap.size + 1, 2, none⟩ = some (.int .i64 pn.num) ∧ x.cell? ⟨wo.heap.size + 1, 3, none⟩ = some (.int .u8 (pn.typ : Int)) ∧ x.cell? ⟨wo.heap.size + 1, 4, none⟩ = some (.int .u64 (pn.ref : Int)) ∧ x.cell? ⟨wo.heap.size + 1, 5, none⟩ = some (.slice Ap kl cp)) ∧ Bytes x x.heap.size v5 (num (pid - bf)) ∧ Bytes x x.heap.size v12 (num pn.name.size ++ str pn.name) ∧ Bytes x x.heap.size v17 (num (zig pn.num)) ∧ Bytes x x.heap.size v23 (num pn.ref))
                      · intro L5_12_17_23
                        apply share4 (F := fun (x : World) (v5 v12 v17 v20 : Value) => (Below wk.heap.size wk x ∧ x.cell? ⟨wo.heap.size, 0, none⟩ = some (.int .u64 (pid : Int)) ∧ x.cell? ⟨wo.heap.size + 1, 0, none⟩ = some (.int .u8 (pn.kind : Int)) ∧ x.cell? ⟨wo.heap.size + 1, 1, none⟩ = some (.string pn.name) ∧ x.cell? ⟨wo.heap.size + 1, 2, none⟩ = some (.int .i64 pn.num) ∧ x.cell? ⟨wo.heap.size + 1, 3, none⟩ = some (.int .u8 (pn.typ : Int)) ∧ x.cell? ⟨wo.heap.size + 1, 4, none⟩ = some (.int .u64 (pn.ref : Int)) ∧ x.cell? ⟨wo.heap.size + 1, 5, none⟩ = some (.slice Ap kl cp)) ∧ Bytes x x.heap.size v5 (num (pid - bf)) ∧ Bytes x x.heap.size v12 (num pn.name.size ++ str pn.name) ∧ Bytes x x.heap.size v17 (num (zig pn.num)) ∧ Bytes x x.heap.size v20 ([pn.typ]))
                        · intro L5_12_17_20
                          apply share4 (F := fun (x : World) (v5 v8 v12 v17 : Value) => (Below wk.heap.size wk x ∧ x.cell? ⟨wo.heap.size, 0, none⟩ = some (.int .u64 (pid : Int)) ∧ x.cell? ⟨wo.heap.size + 1, 0, none⟩ = some (.int .u8 (pn.kind : Int)) ∧ x.cell? ⟨wo.heap.size + 1, 1, none⟩ = some (.string pn.name) ∧ x.cell? ⟨wo.heap.size + 1, 2, none⟩ = some (.int .i64 pn.num) ∧ x.cell? ⟨wo.heap.size + 1, 3, none⟩ = some (.int .u8 (pn.typ : Int)) ∧ x.cell? ⟨wo.heap.size + 1, 4, none⟩ = some (.int .u64 (pn.ref : Int)) ∧ x.cell? ⟨wo.heap.size + 1, 5, none⟩ = some (.slice Ap kl cp)) ∧ Bytes x x.heap.size v5 (num (pid - bf)) ∧ Bytes x x.heap.size v8 ([pn.kind]) ∧ Bytes x x.heap.size v12 (num pn.name.size ++ str pn.name) ∧ Bytes x x.heap.size v17 (num (zig pn.num)))
                          · intro L5_8_12_17
                            apply share4 (F := fun (x : World) (v5 v8 v12 v20 : Value) => (Below wk.heap.size wk x ∧ x.cell? ⟨wo.heap.size, 0, none⟩ = some (.int .u64 (pid : Int)) ∧ x.cell? ⟨wo.heap.size + 1, 0, none⟩ = some (.int .u8 (pn.kind : Int)) ∧ x.cell? ⟨wo.heap.size + 1, 1, none⟩ = some (.string pn.name) ∧ x.cell? ⟨wo.heap.size + 1, 2, none⟩ = some (.int .i64 pn.num) ∧ x.cell? ⟨wo.heap.size + 1, 3, none⟩ = some (.int .u8 (pn.typ : Int)) ∧ x.cell? ⟨wo.heap.size + 1, 4, none⟩ = some (.int .u64 (pn.ref : Int)) ∧ x.cell? ⟨wo.heap.size + 1, 5, none⟩ = some (.slice Ap kl cp)) ∧ Bytes x x.heap.size v5 (num (pid - bf)) ∧ Bytes x x.heap.size v8 ([pn.kind]) ∧ Bytes x x.heap.size v12 (num pn.name.size ++ str pn.name) ∧ Bytes x x.heap.size v20 ([pn.typ]))
                            · intro L5_8_12_20
                              apply share3 (F := fun (x : World) (v5 v12 v17 : Value) => (Below wk.heap.size wk x ∧ x.cell? ⟨wo.heap.size, 0, none⟩ = some (.int .u64 (pid : Int)) ∧ x.cell? ⟨wo.heap.size + 1, 0, none⟩ = some (.int .u8 (pn.kind : Int)) ∧ x.cell? ⟨wo.heap.size + 1, 1, none⟩ = some (.string pn.name) ∧ x.cell? ⟨wo.heap.size + 1, 2, none⟩ = some (.int .i64 pn.num) ∧ x.cell? ⟨wo.heap.size + 1, 3, none⟩ = some (.int .u8 (pn.typ : Int)) ∧ x.cell? ⟨wo.heap.size + 1, 4, none⟩ = some (.int .u64 (pn.ref : Int)) ∧ x.cell? ⟨wo.heap.size + 1, 5, none⟩ = some (.slice Ap kl cp)) ∧ Bytes x x.heap.size v5 (num (pid - bf)) ∧ Bytes x x.heap.size v12 (num pn.name.size ++ str pn.name) ∧ Bytes x x.heap.size v17 (num (zig pn.num)))
                              · intro L5_12_17
                                apply share3 (F := fun (x : World) (v5 v12 v20 : Value) => (Below wk.heap.size wk x ∧ x.cell? ⟨wo.heap.size, 0, none⟩ = some (.int .u64 (pid : Int)) ∧ x.cell? ⟨wo.heap.size + 1, 0, none⟩ = some (.int .u8 (pn.kind : Int)) ∧ x.cell? ⟨wo.heap.size + 1, 1, none⟩ = some (.string pn.name) ∧ x.cell? ⟨wo.heap.size + 1, 2, none⟩ = some (.int .i64 pn.num) ∧ x.cell? ⟨wo.heap.size + 1, 3, none⟩ = some (.int .u8 (pn.typ : Int)) ∧ x.cell? ⟨wo.heap.size + 1, 4, none⟩ = some (.int .u64 (pn.ref : Int)) ∧ x.cell? ⟨wo.heap.size + 1, 5, none⟩ = some (.slice Ap kl cp)) ∧ Bytes x x.heap.size v5 (num (pid - bf)) ∧ Bytes x x.heap.size v12 (num pn.name.size ++ str pn.name) ∧ Bytes x x.heap.size v20 ([pn.typ]))
                                · intro L5_12_20
                                  apply share3 (F := fun (x : World) (v5 v8 v12 : Value) => (Below wk.heap.size wk x ∧ x.cell? ⟨wo.heap.size, 0, none⟩ = some (.int .u64 (pid : Int)) ∧ x.cell? ⟨wo.heap.size + 1, 0, none⟩ = some (.int .u8 (pn.kind : Int)) ∧ x.cell? ⟨wo.heap.size + 1, 1, none⟩ = some (.string pn.name) ∧ x.cell? ⟨wo.heap.size + 1, 2, none⟩ = some (.int .i64 pn.num) ∧ x.cell? ⟨wo.heap.size + 1, 3, none⟩ = some (.int .u8 (pn.typ : Int)) ∧ x.cell? ⟨wo.heap.size + 1, 4, none⟩ = some (.int .u64 (pn.ref : Int)) ∧ x.cell? ⟨wo.heap.size + 1, 5, none⟩ = some (.slice Ap kl cp)) ∧ Bytes x x.heap.size v5 (num (pid - bf)) ∧ Bytes x x.heap.size v8 ([pn.kind]) ∧ Bytes x x.heap.size v12 (num pn.name.size ++ str pn.name))
                                  · intro L5_8_12
                                    apply share3 (F := fun (x : World) (v5 v8 v20 : Value) => (Below wk.heap.size wk x ∧ x.cell? ⟨wo.heap.size, 0, none⟩ = some (.int .u64 (pid : Int)) ∧ x.cell? ⟨wo.heap.size + 1, 0, none⟩ = some (.int .u8 (pn.kind : Int)) ∧ x.cell? ⟨wo.heap.size + 1, 1, none⟩ = some (.string pn.name) ∧ x.cell? ⟨wo.heap.size + 1, 2, none⟩ = some (.int .i64 pn.num) ∧ x.cell? ⟨wo.heap.size + 1, 3, none⟩ = some (.int .u8 (pn.typ : Int)) ∧ x.cell? ⟨wo.heap.size + 1, 4, none⟩ = some (.int .u64 (pn.ref : Int)) ∧ x.cell? ⟨wo.heap.size + 1, 5, none⟩ = some (.slice Ap kl cp)) ∧ Bytes x x.heap.size v5 (num (pid - bf)) ∧ Bytes x x.heap.size v8 ([pn.kind]) ∧ Bytes x x.heap.size v20 ([pn.typ]))
                                    · intro L5_8_20
                                      apply share2 (F := fun (x : World) (v5 v12 : Value) => (Below wk.heap.size wk x ∧ x.cell? ⟨wo.heap.size, 0, none⟩ = some (.int .u64 (pid : Int)) ∧ x.cell? ⟨wo.heap.size + 1, 0, none⟩ = some (.int .u8 (pn.kind : Int)) ∧ x.cell? ⟨wo.heap.size + 1, 1, none⟩ = some (.string pn.name) ∧ x.cell? ⟨wo.heap.size + 1, 2, none⟩ = some (.int .i64 pn.num) ∧ x.cell? ⟨wo.heap.size + 1, 3, none⟩ = some (.int .u8 (pn.typ : Int)) ∧ x.cell? ⟨wo.heap.size + 1, 4, none⟩ = some (.int .u64 (pn.ref : Int)) ∧ x.cell? ⟨wo.heap.size + 1, 5, none⟩ = some (.slice Ap kl cp)) ∧ Bytes x x.heap.size v5 (num (pid - bf)) ∧ Bytes x x.heap.size v12 (num pn.name.size ++ str pn.name))
                                      · intro L5_12
                                        apply share2 (F := fun (x : World) (v5 v20 : Value) => (Below wk.heap.size wk x ∧ x.cell? ⟨wo.heap.size, 0, none⟩ = some (.int .u64 (pid : Int)) ∧ x.cell? ⟨wo.heap.size + 1, 0, none⟩ = some (.int .u8 (pn.kind : Int)) ∧ x.cell? ⟨wo.heap.size + 1, 1, none⟩ = some (.string pn.name) ∧ x.cell? ⟨wo.heap.size + 1, 2, none⟩ = some (.int .i64 pn.num) ∧ x.cell? ⟨wo.heap.size + 1, 3, none⟩ = some (.int .u8 (pn.typ : Int)) ∧ x.cell? ⟨wo.heap.size + 1, 4, none⟩ = some (.int .u64 (pn.ref : Int)) ∧ x.cell? ⟨wo.heap.size + 1, 5, none⟩ = some (.slice Ap kl cp)) ∧ Bytes x x.heap.size v5 (num (pid - bf)) ∧ Bytes x x.heap.size v20 ([pn.typ]))
                                        · intro L5_20
                                          apply share2 (F := fun (x : World) (v5 v8 : Value) => (Below wk.heap.size wk x ∧ x.cell? ⟨wo.heap.size, 0, none⟩ = some (.int .u64 (pid : Int)) ∧ x.cell? ⟨wo.heap.size + 1, 0, none⟩ = some (.int .u8 (pn.kind : Int)) ∧ x.cell? ⟨wo.heap.size + 1, 1, none⟩ = some (.string pn.name) ∧ x.cell? ⟨wo.heap.size + 1, 2, none⟩ = some (.int .i64 pn.num) ∧ x.cell? ⟨wo.heap.size + 1, 3, none⟩ = some (.int .u8 (pn.typ : Int)) ∧ x.cell? ⟨wo.heap.size + 1, 4, none⟩ = some (.int .u64 (pn.ref : Int)) ∧ x.cell? ⟨wo.heap.size + 1, 5, none⟩ = some (.slice Ap kl cp)) ∧ Bytes x x.heap.size v5 (num (pid - bf)) ∧ Bytes x x.heap.size v8 ([pn.kind]))
                                          · intro L5_8
                                            apply share2 (F := fun (x : World) (v8 v20 : Value) => (Below wk.heap.size wk x ∧ x.cell? ⟨wo.heap.size, 0, none⟩ = some (.int .u64 (pid : Int)) ∧ x.cell? ⟨wo.heap.size + 1, 0, none⟩ = some (.int .u8 (pn.kind : Int)) ∧ x.cell? ⟨wo.heap.size + 1, 1, none⟩ = some (.string pn.name) ∧ x.cell? ⟨wo.heap.size + 1, 2, none⟩ = some (.int .i64 pn.num) ∧ x.cell? ⟨wo.heap.size + 1, 3, none⟩ = some (.int .u8 (pn.typ : Int)) ∧ x.cell? ⟨wo.heap.size + 1, 4, none⟩ = some (.int .u64 (pn.ref : Int)) ∧ x.cell? ⟨wo.heap.size + 1, 5, none⟩ = some (.slice Ap kl cp)) ∧ Bytes x x.heap.size v8 ([pn.kind]) ∧ Bytes x x.heap.size v20 ([pn.typ]))
                                            · intro L8_20
                                              apply share1 (F := fun (x : World) (v5 : Value) => (Below wk.heap.size wk x ∧ x.cell? ⟨wo.heap.size, 0, none⟩ = some (.int .u64 (pid : Int)) ∧ x.cell? ⟨wo.heap.size + 1, 0, none⟩ = some (.int .u8 (pn.kind : Int)) ∧ x.cell? ⟨wo.heap.size + 1, 1, none⟩ = some (.string pn.name) ∧ x.cell? ⟨wo.heap.size + 1, 2, none⟩ = some (.int .i64 pn.num) ∧ x.cell? ⟨wo.heap.size + 1, 3, none⟩ = some (.int .u8 (pn.typ : Int)) ∧ x.cell? ⟨wo.heap.size + 1, 4, none⟩ = some (.int .u64 (pn.ref : Int)) ∧ x.cell? ⟨wo.heap.size + 1, 5, none⟩ = some (.slice Ap kl cp)) ∧ Bytes x x.heap.size v5 (num (pid - bf)))
                                              · intro L5
                                                apply share1 (F := fun (x : World) (v20 : Value) => (Below wk.heap.size wk x ∧ x.cell? ⟨wo.heap.size, 0, none⟩ = some (.int .u64 (pid : Int)) ∧ x.cell? ⟨wo.heap.size + 1, 0, none⟩ = some (.int .u8 (pn.kind : Int)) ∧ x.cell? ⟨wo.heap.size + 1, 1, none⟩ = some (.string pn.name) ∧ x.cell? ⟨wo.heap.size + 1, 2, none⟩ = some (.int .i64 pn.num) ∧ x.cell? ⟨wo.heap.size + 1, 3, none⟩ = some (.int .u8 (pn.typ : Int)) ∧ x.cell? ⟨wo.heap.size + 1, 4, none⟩ = some (.int .u64 (pn.ref : Int)) ∧ x.cell? ⟨wo.heap.size + 1, 5, none⟩ = some (.slice Ap kl cp)) ∧ Bytes x x.heap.size v20 ([pn.typ]))
                                                · intro L20
                                                  apply share1 (F := fun (x : World) (v8 : Value) => (Below wk.heap.size wk x ∧ x.cell? ⟨wo.heap.size, 0, none⟩ = some (.int .u64 (pid : Int)) ∧ x.cell? ⟨wo.heap.size + 1, 0, none⟩ = some (.int .u8 (pn.kind : Int)) ∧ x.cell? ⟨wo.heap.size + 1, 1, none⟩ = some (.string pn.name) ∧ x.cell? ⟨wo.heap.size + 1, 2, none⟩ = some (.int .i64 pn.num) ∧ x.cell? ⟨wo.heap.size + 1, 3, none⟩ = some (.int .u8 (pn.typ : Int)) ∧ x.cell? ⟨wo.heap.size + 1, 4, none⟩ = some (.int .u64 (pn.ref : Int)) ∧ x.cell? ⟨wo.heap.size + 1, 5, none⟩ = some (.slice Ap kl cp)) ∧ Bytes x x.heap.size v8 ([pn.kind]))
                                                  · intro L8
                                                    refine wpAnyH_ready (rs := [5, 8, 20]) (by kernel_rfl) (by simp) ?_
                                                    refine (AllReadyH.cons rfl (fun K hK => ?_) (AllReadyH.cons rfl (fun K hK => ?_) (AllReadyH.cons rfl (fun K hK => ?_) AllReadyH.nil)))
                                                    · go_simp
                                                      refine (num_v (pid - bf) wk.drew hpb).mono ?_
                                                      rintro e y ⟨v5, rfl, f5, hb⟩
                                                      refine hK.out _ _ ?_ (fun hHeld2 => ?_)
                                                      · exact HSK.out _ (ride_call hb hHeld.1)
                                                      clear hK K
                                                      have hHeld := hHeld2
                                                      clear hHeld2
                                                      try simp only [Act.put, List.setIfInBounds_toArray, List.set_cons_zero, List.set_cons_succ]
                                                      clear hb
                                                      exact L5.out y v5 ⟨hHeld, f5⟩
                                                    · go_simp
                                                      refine hK.out _ _ ?_ (fun hHeld2 => ?_)
                                                      · exact HSK.out _ (ride_alloc hHeld.1 _)
                                                      clear hK K
                                                      have hHeld := hHeld2
                                                      clear hHeld2
                                                      try simp only [Act.put, List.setIfInBounds_toArray, List.set_cons_zero, List.set_cons_succ]
                                                      have f8 : Bytes ((wk.alloc (.cells #[.int .u8 (pn.kind : Int)] 5)).drew) ((wk.alloc (.cells #[.int .u8 (pn.kind : Int)] 5)).drew).heap.size (.slice (some ⟨wk.heap.size, 0, none⟩) 1 1) [pn.kind] := (mine_one wk.drew pn.kind hpkd).bytes
                                                      obtain ⟨v8, hv8⟩ : ∃ v, v = Value.slice (some ⟨wk.heap.size, 0, none⟩) 1 1 := ⟨_, rfl⟩
                                                      rw [← hv8] at f8 ⊢
                                                      clear hv8
                                                      obtain ⟨y, hy⟩ : ∃ y, y = ((wk.alloc (.cells #[.int .u8 (pn.kind : Int)] 5)).drew) := ⟨_, rfl⟩
                                                      rw [← hy]
                                                      rw [← hy] at hHeld f8
                                                      clear hy
                                                      exact L8.out y v8 ⟨hHeld, f8⟩
                                                    · go_simp
                                                      refine hK.out _ _ ?_ (fun hHeld2 => ?_)
                                                      · exact HSK.out _ (ride_alloc hHeld.1 _)
                                                      clear hK K
                                                      have hHeld := hHeld2
                                                      clear hHeld2
                                                      try simp only [Act.put, List.setIfInBounds_toArray, List.set_cons_zero, List.set_cons_succ]
                                                      have f20 : Bytes ((wk.alloc (.cells #[.int .u8 (pn.typ : Int)] 5)).drew) ((wk.alloc (.cells #[.int .u8 (pn.typ : Int)] 5)).drew).heap.size (.slice (some ⟨wk.heap.size, 0, none⟩) 1 1) [pn.typ] := (mine_one wk.drew pn.typ hpty).bytes
                                                      obtain ⟨v20, hv20⟩ : ∃ v, v = Value.slice (some ⟨wk.heap.size, 0, none⟩) 1 1 := ⟨_, rfl⟩
                                                      rw [← hv20] at f20 ⊢
                                                      clear hv20
                                                      obtain ⟨y, hy⟩ : ∃ y, y = ((wk.alloc (.cells #[.int .u8 (pn.typ : Int)] 5)).drew) := ⟨_, rfl⟩
                                                      rw [← hy]
                                                      rw [← hy] at hHeld f20
                                                      clear hy
                                                      exact L20.out y v20 ⟨hHeld, f20⟩
                                                  · intro x v8 ⟨hHeld, f8⟩
                                                    refine wpAnyH_ready (rs := [5, 20]) (by kernel_rfl) (by simp) ?_
                                                    refine (AllReadyH.cons rfl (fun K hK => ?_) (AllReadyH.cons rfl (fun K hK => ?_) AllReadyH.nil))
                                                    · go_simp
                                                      refine (num_v (pid - bf) x hpb).mono ?_
                                                      rintro e y ⟨v5, rfl, f5, hb⟩
                                                      refine hK.out _ _ ?_ (fun hHeld2 => ?_)
                                                      · exact HSK.out _ (ride_call hb hHeld.1)
                                                      clear hK K
                                                      have hHeld := hHeld2
                                                      clear hHeld2
                                                      try simp only [Act.put, List.setIfInBounds_toArray, List.set_cons_zero, List.set_cons_succ]
                                                      have f8 := f8.along hb
                                                      clear hb
                                                      exact L5_8.out y v5 v8 ⟨hHeld, f5, f8⟩
                                                    · go_simp
                                                      refine hK.out _ _ ?_ (fun hHeld2 => ?_)
                                                      · exact HSK.out _ (ride_alloc hHeld.1 _)
                                                      clear hK K
                                                      have hHeld := hHeld2
                                                      clear hHeld2
                                                      try simp only [Act.put, List.setIfInBounds_toArray, List.set_cons_zero, List.set_cons_succ]
                                                      have f8 := f8.along (show Below x.heap.size x (x.alloc (.cells #[.int .u8 (pn.typ : Int)] 5)) from (Below.refl _ x).alloc (Nat.le_refl _) (.cells #[.int .u8 (pn.typ : Int)] 5))
                                                      have f20 : Bytes (x.alloc (.cells #[.int .u8 (pn.typ : Int)] 5)) (x.alloc (.cells #[.int .u8 (pn.typ : Int)] 5)).heap.size (.slice (some ⟨x.heap.size, 0, none⟩) 1 1) [pn.typ] := (mine_one x pn.typ hpty).bytes
                                                      obtain ⟨v20, hv20⟩ : ∃ v, v = Value.slice (some ⟨x.heap.size, 0, none⟩) 1 1 := ⟨_, rfl⟩
                                                      rw [← hv20] at f20 ⊢
                                                      clear hv20
                                                      obtain ⟨y, hy⟩ : ∃ y, y = (x.alloc (.cells #[.int .u8 (pn.typ : Int)] 5)) := ⟨_, rfl⟩
                                                      rw [← hy]
                                                      rw [← hy] at hHeld f8 f20
                                                      clear hy
                                                      exact L8_20.out y v8 v20 ⟨hHeld, f8, f20⟩
                                                · intro x v20 ⟨hHeld, f20⟩
                                                  refine wpAnyH_ready (rs := [5, 8]) (by kernel_rfl) (by simp) ?_
                                                  refine (AllReadyH.cons rfl (fun K hK => ?_) (AllReadyH.cons rfl (fun K hK => ?_) AllReadyH.nil))
                                                  · go_simp
                                                    refine (num_v (pid - bf) x hpb).mono ?_
                                                    rintro e y ⟨v5, rfl, f5, hb⟩
                                                    refine hK.out _ _ ?_ (fun hHeld2 => ?_)
                                                    · exact HSK.out _ (ride_call hb hHeld.1)
                                                    clear hK K
                                                    have hHeld := hHeld2
                                                    clear hHeld2
                                                    try simp only [Act.put, List.setIfInBounds_toArray, List.set_cons_zero, List.set_cons_succ]
                                                    have f20 := f20.along hb
                                                    clear hb
                                                    exact L5_20.out y v5 v20 ⟨hHeld, f5, f20⟩
                                                  · go_simp
                                                    refine hK.out _ _ ?_ (fun hHeld2 => ?_)
                                                    · exact HSK.out _ (ride_alloc hHeld.1 _)
                                                    clear hK K
                                                    have hHeld := hHeld2
                                                    clear hHeld2
                                                    try simp only [Act.put, List.setIfInBounds_toArray, List.set_cons_zero, List.set_cons_succ]
                                                    have f20 := f20.along (show Below x.heap.size x (x.alloc (.cells #[.int .u8 (pn.kind : Int)] 5)) from (Below.refl _ x).alloc (Nat.le_refl _) (.cells #[.int .u8 (pn.kind : Int)] 5))
                                                    have f8 : Bytes (x.alloc (.cells #[.int .u8 (pn.kind : Int)] 5)) (x.alloc (.cells #[.int .u8 (pn.kind : Int)] 5)).heap.size (.slice (some ⟨x.heap.size, 0, none⟩) 1 1) [pn.kind] := (mine_one x pn.kind hpkd).bytes
                                                    obtain ⟨v8, hv8⟩ : ∃ v, v = Value.slice (some ⟨x.heap.size, 0, none⟩) 1 1 := ⟨_, rfl⟩
                                                    rw [← hv8] at f8 ⊢
                                                    clear hv8
                                                    obtain ⟨y, hy⟩ : ∃ y, y = (x.alloc (.cells #[.int .u8 (pn.kind : Int)] 5)) := ⟨_, rfl⟩
                                                    rw [← hy]
                                                    rw [← hy] at hHeld f20 f8
                                                    clear hy
                                                    exact L8_20.out y v8 v20 ⟨hHeld, f8, f20⟩
                                              · intro x v5 ⟨hHeld, f5⟩
                                                refine wpAnyH_ready (rs := [8, 12, 20]) (by kernel_rfl) (by simp) ?_
                                                refine (AllReadyH.cons rfl (fun K hK => ?_) (AllReadyH.cons rfl (fun K hK => ?_) (AllReadyH.cons rfl (fun K hK => ?_) AllReadyH.nil)))
                                                · go_simp
                                                  refine hK.out _ _ ?_ (fun hHeld2 => ?_)
                                                  · exact HSK.out _ (ride_alloc hHeld.1 _)
                                                  clear hK K
                                                  have hHeld := hHeld2
                                                  clear hHeld2
                                                  try simp only [Act.put, List.setIfInBounds_toArray, List.set_cons_zero, List.set_cons_succ]
                                                  have f5 := f5.along (show Below x.heap.size x (x.alloc (.cells #[.int .u8 (pn.kind : Int)] 5)) from (Below.refl _ x).alloc (Nat.le_refl _) (.cells #[.int .u8 (pn.kind : Int)] 5))
                                                  have f8 : Bytes (x.alloc (.cells #[.int .u8 (pn.kind : Int)] 5)) (x.alloc (.cells #[.int .u8 (pn.kind : Int)] 5)).heap.size (.slice (some ⟨x.heap.size, 0, none⟩) 1 1) [pn.kind] := (mine_one x pn.kind hpkd).bytes
                                                  obtain ⟨v8, hv8⟩ : ∃ v, v = Value.slice (some ⟨x.heap.size, 0, none⟩) 1 1 := ⟨_, rfl⟩
                                                  rw [← hv8] at f8 ⊢
                                                  clear hv8
                                                  obtain ⟨y, hy⟩ : ∃ y, y = (x.alloc (.cells #[.int .u8 (pn.kind : Int)] 5)) := ⟨_, rfl⟩
                                                  rw [← hy]
                                                  rw [← hy] at hHeld f5 f8
                                                  clear hy
                                                  exact L5_8.out y v5 v8 ⟨hHeld, f5, f8⟩
                                                · go_simp
                                                  refine (lay2_v x pn.name hps).mono ?_
                                                  rintro e y ⟨v12, rfl, f12, hb⟩
                                                  refine hK.out _ _ ?_ (fun hHeld2 => ?_)
                                                  · exact HSK.out _ (ride_call hb hHeld.1)
                                                  clear hK K
                                                  have hHeld := hHeld2
                                                  clear hHeld2
                                                  try simp only [Act.put, List.setIfInBounds_toArray, List.set_cons_zero, List.set_cons_succ]
                                                  have f5 := f5.along hb
                                                  clear hb
                                                  exact L5_12.out y v5 v12 ⟨hHeld, f5, f12⟩
                                                · go_simp
                                                  refine hK.out _ _ ?_ (fun hHeld2 => ?_)
                                                  · exact HSK.out _ (ride_alloc hHeld.1 _)
                                                  clear hK K
                                                  have hHeld := hHeld2
                                                  clear hHeld2
                                                  try simp only [Act.put, List.setIfInBounds_toArray, List.set_cons_zero, List.set_cons_succ]
                                                  have f5 := f5.along (show Below x.heap.size x (x.alloc (.cells #[.int .u8 (pn.typ : Int)] 5)) from (Below.refl _ x).alloc (Nat.le_refl _) (.cells #[.int .u8 (pn.typ : Int)] 5))
                                                  have f20 : Bytes (x.alloc (.cells #[.int .u8 (pn.typ : Int)] 5)) (x.alloc (.cells #[.int .u8 (pn.typ : Int)] 5)).heap.size (.slice (some ⟨x.heap.size, 0, none⟩) 1 1) [pn.typ] := (mine_one x pn.typ hpty).bytes
                                                  obtain ⟨v20, hv20⟩ : ∃ v, v = Value.slice (some ⟨x.heap.size, 0, none⟩) 1 1 := ⟨_, rfl⟩
                                                  rw [← hv20] at f20 ⊢
                                                  clear hv20
                                                  obtain ⟨y, hy⟩ : ∃ y, y = (x.alloc (.cells #[.int .u8 (pn.typ : Int)] 5)) := ⟨_, rfl⟩
                                                  rw [← hy]
                                                  rw [← hy] at hHeld f5 f20
                                                  clear hy
                                                  exact L5_20.out y v5 v20 ⟨hHeld, f5, f20⟩
                                            · intro x v8 v20 ⟨hHeld, f8, f20⟩
                                              refine wpAnyH_ready (rs := [5]) (by kernel_rfl) (by simp) ?_
                                              refine (AllReadyH.cons rfl (fun K hK => ?_) AllReadyH.nil)
                                              · go_simp
                                                refine (num_v (pid - bf) x hpb).mono ?_
                                                rintro e y ⟨v5, rfl, f5, hb⟩
                                                refine hK.out _ _ ?_ (fun hHeld2 => ?_)
                                                · exact HSK.out _ (ride_call hb hHeld.1)
                                                clear hK K
                                                have hHeld := hHeld2
                                                clear hHeld2
                                                try simp only [Act.put, List.setIfInBounds_toArray, List.set_cons_zero, List.set_cons_succ]
                                                have f8 := f8.along hb
                                                have f20 := f20.along hb
                                                clear hb
                                                exact L5_8_20.out y v5 v8 v20 ⟨hHeld, f5, f8, f20⟩
                                          · intro x v5 v8 ⟨hHeld, f5, f8⟩
                                            refine wpAnyH_ready (rs := [12, 20]) (by kernel_rfl) (by simp) ?_
                                            refine (AllReadyH.cons rfl (fun K hK => ?_) (AllReadyH.cons rfl (fun K hK => ?_) AllReadyH.nil))
                                            · go_simp
                                              refine (lay2_v x pn.name hps).mono ?_
                                              rintro e y ⟨v12, rfl, f12, hb⟩
                                              refine hK.out _ _ ?_ (fun hHeld2 => ?_)
                                              · exact HSK.out _ (ride_call hb hHeld.1)
                                              clear hK K
                                              have hHeld := hHeld2
                                              clear hHeld2
                                              try simp only [Act.put, List.setIfInBounds_toArray, List.set_cons_zero, List.set_cons_succ]
                                              have f5 := f5.along hb
                                              have f8 := f8.along hb
                                              clear hb
                                              exact L5_8_12.out y v5 v8 v12 ⟨hHeld, f5, f8, f12⟩
                                            · go_simp
                                              refine hK.out _ _ ?_ (fun hHeld2 => ?_)
                                              · exact HSK.out _ (ride_alloc hHeld.1 _)
                                              clear hK K
                                              have hHeld := hHeld2
                                              clear hHeld2
                                              try simp only [Act.put, List.setIfInBounds_toArray, List.set_cons_zero, List.set_cons_succ]
                                              have f5 := f5.along (show Below x.heap.size x (x.alloc (.cells #[.int .u8 (pn.typ : Int)] 5)) from (Below.refl _ x).alloc (Nat.le_refl _) (.cells #[.int .u8 (pn.typ : Int)] 5))
                                              have f8 := f8.along (show Below x.heap.size x (x.alloc (.cells #[.int .u8 (pn.typ : Int)] 5)) from (Below.refl _ x).alloc (Nat.le_refl _) (.cells #[.int .u8 (pn.typ : Int)] 5))
                                              have f20 : Bytes (x.alloc (.cells #[.int .u8 (pn.typ : Int)] 5)) (x.alloc (.cells #[.int .u8 (pn.typ : Int)] 5)).heap.size (.slice (some ⟨x.heap.size, 0, none⟩) 1 1) [pn.typ] := (mine_one x pn.typ hpty).bytes
                                              obtain ⟨v20, hv20⟩ : ∃ v, v = Value.slice (some ⟨x.heap.size, 0, none⟩) 1 1 := ⟨_, rfl⟩
                                              rw [← hv20] at f20 ⊢
                                              clear hv20
                                              obtain ⟨y, hy⟩ : ∃ y, y = (x.alloc (.cells #[.int .u8 (pn.typ : Int)] 5)) := ⟨_, rfl⟩
                                              rw [← hy]
                                              rw [← hy] at hHeld f5 f8 f20
                                              clear hy
                                              exact L5_8_20.out y v5 v8 v20 ⟨hHeld, f5, f8, f20⟩
                                        · intro x v5 v20 ⟨hHeld, f5, f20⟩
                                          refine wpAnyH_ready (rs := [8, 12]) (by kernel_rfl) (by simp) ?_
                                          refine (AllReadyH.cons rfl (fun K hK => ?_) (AllReadyH.cons rfl (fun K hK => ?_) AllReadyH.nil))
                                          · go_simp
                                            refine hK.out _ _ ?_ (fun hHeld2 => ?_)
                                            · exact HSK.out _ (ride_alloc hHeld.1 _)
                                            clear hK K
                                            have hHeld := hHeld2
                                            clear hHeld2
                                            try simp only [Act.put, List.setIfInBounds_toArray, List.set_cons_zero, List.set_cons_succ]
                                            have f5 := f5.along (show Below x.heap.size x (x.alloc (.cells #[.int .u8 (pn.kind : Int)] 5)) from (Below.refl _ x).alloc (Nat.le_refl _) (.cells #[.int .u8 (pn.kind : Int)] 5))
                                            have f20 := f20.along (show Below x.heap.size x (x.alloc (.cells #[.int .u8 (pn.kind : Int)] 5)) from (Below.refl _ x).alloc (Nat.le_refl _) (.cells #[.int .u8 (pn.kind : Int)] 5))
                                            have f8 : Bytes (x.alloc (.cells #[.int .u8 (pn.kind : Int)] 5)) (x.alloc (.cells #[.int .u8 (pn.kind : Int)] 5)).heap.size (.slice (some ⟨x.heap.size, 0, none⟩) 1 1) [pn.kind] := (mine_one x pn.kind hpkd).bytes
                                            obtain ⟨v8, hv8⟩ : ∃ v, v = Value.slice (some ⟨x.heap.size, 0, none⟩) 1 1 := ⟨_, rfl⟩
                                            rw [← hv8] at f8 ⊢
                                            clear hv8
                                            obtain ⟨y, hy⟩ : ∃ y, y = (x.alloc (.cells #[.int .u8 (pn.kind : Int)] 5)) := ⟨_, rfl⟩
                                            rw [← hy]
                                            rw [← hy] at hHeld f5 f20 f8
                                            clear hy
                                            exact L5_8_20.out y v5 v8 v20 ⟨hHeld, f5, f8, f20⟩
                                          · go_simp
                                            refine (lay2_v x pn.name hps).mono ?_
                                            rintro e y ⟨v12, rfl, f12, hb⟩
                                            refine hK.out _ _ ?_ (fun hHeld2 => ?_)
                                            · exact HSK.out _ (ride_call hb hHeld.1)
                                            clear hK K
                                            have hHeld := hHeld2
                                            clear hHeld2
                                            try simp only [Act.put, List.setIfInBounds_toArray, List.set_cons_zero, List.set_cons_succ]
                                            have f5 := f5.along hb
                                            have f20 := f20.along hb
                                            clear hb
                                            exact L5_12_20.out y v5 v12 v20 ⟨hHeld, f5, f12, f20⟩
                                      · intro x v5 v12 ⟨hHeld, f5, f12⟩
                                        refine wpAnyH_ready (rs := [8, 17, 20]) (by kernel_rfl) (by simp) ?_
                                        refine (AllReadyH.cons rfl (fun K hK => ?_) (AllReadyH.cons rfl (fun K hK => ?_) (AllReadyH.cons rfl (fun K hK => ?_) AllReadyH.nil)))
                                        · go_simp
                                          refine hK.out _ _ ?_ (fun hHeld2 => ?_)
                                          · exact HSK.out _ (ride_alloc hHeld.1 _)
                                          clear hK K
                                          have hHeld := hHeld2
                                          clear hHeld2
                                          try simp only [Act.put, List.setIfInBounds_toArray, List.set_cons_zero, List.set_cons_succ]
                                          have f5 := f5.along (show Below x.heap.size x (x.alloc (.cells #[.int .u8 (pn.kind : Int)] 5)) from (Below.refl _ x).alloc (Nat.le_refl _) (.cells #[.int .u8 (pn.kind : Int)] 5))
                                          have f12 := f12.along (show Below x.heap.size x (x.alloc (.cells #[.int .u8 (pn.kind : Int)] 5)) from (Below.refl _ x).alloc (Nat.le_refl _) (.cells #[.int .u8 (pn.kind : Int)] 5))
                                          have f8 : Bytes (x.alloc (.cells #[.int .u8 (pn.kind : Int)] 5)) (x.alloc (.cells #[.int .u8 (pn.kind : Int)] 5)).heap.size (.slice (some ⟨x.heap.size, 0, none⟩) 1 1) [pn.kind] := (mine_one x pn.kind hpkd).bytes
                                          obtain ⟨v8, hv8⟩ : ∃ v, v = Value.slice (some ⟨x.heap.size, 0, none⟩) 1 1 := ⟨_, rfl⟩
                                          rw [← hv8] at f8 ⊢
                                          clear hv8
                                          obtain ⟨y, hy⟩ : ∃ y, y = (x.alloc (.cells #[.int .u8 (pn.kind : Int)] 5)) := ⟨_, rfl⟩
                                          rw [← hy]
                                          rw [← hy] at hHeld f5 f12 f8
                                          clear hy
                                          exact L5_8_12.out y v5 v8 v12 ⟨hHeld, f5, f8, f12⟩
                                        · go_simp
                                          refine (lay1_v x pn.num hpn1 hpn2).mono ?_
                                          rintro e y ⟨v17, rfl, f17, hb⟩
                                          refine hK.out _ _ ?_ (fun hHeld2 => ?_)
                                          · exact HSK.out _ (ride_call hb hHeld.1)
                                          clear hK K
                                          have hHeld := hHeld2
                                          clear hHeld2
                                          try simp only [Act.put, List.setIfInBounds_toArray, List.set_cons_zero, List.set_cons_succ]
                                          have f5 := f5.along hb
                                          have f12 := f12.along hb
                                          clear hb
                                          exact L5_12_17.out y v5 v12 v17 ⟨hHeld, f5, f12, f17⟩
                                        · go_simp
                                          refine hK.out _ _ ?_ (fun hHeld2 => ?_)
                                          · exact HSK.out _ (ride_alloc hHeld.1 _)
                                          clear hK K
                                          have hHeld := hHeld2
                                          clear hHeld2
                                          try simp only [Act.put, List.setIfInBounds_toArray, List.set_cons_zero, List.set_cons_succ]
                                          have f5 := f5.along (show Below x.heap.size x (x.alloc (.cells #[.int .u8 (pn.typ : Int)] 5)) from (Below.refl _ x).alloc (Nat.le_refl _) (.cells #[.int .u8 (pn.typ : Int)] 5))
                                          have f12 := f12.along (show Below x.heap.size x (x.alloc (.cells #[.int .u8 (pn.typ : Int)] 5)) from (Below.refl _ x).alloc (Nat.le_refl _) (.cells #[.int .u8 (pn.typ : Int)] 5))
                                          have f20 : Bytes (x.alloc (.cells #[.int .u8 (pn.typ : Int)] 5)) (x.alloc (.cells #[.int .u8 (pn.typ : Int)] 5)).heap.size (.slice (some ⟨x.heap.size, 0, none⟩) 1 1) [pn.typ] := (mine_one x pn.typ hpty).bytes
                                          obtain ⟨v20, hv20⟩ : ∃ v, v = Value.slice (some ⟨x.heap.size, 0, none⟩) 1 1 := ⟨_, rfl⟩
                                          rw [← hv20] at f20 ⊢
                                          clear hv20
                                          obtain ⟨y, hy⟩ : ∃ y, y = (x.alloc (.cells #[.int .u8 (pn.typ : Int)] 5)) := ⟨_, rfl⟩
                                          rw [← hy]
                                          rw [← hy] at hHeld f5 f12 f20
                                          clear hy
                                          exact L5_12_20.out y v5 v12 v20 ⟨hHeld, f5, f12, f20⟩
                                    · intro x v5 v8 v20 ⟨hHeld, f5, f8, f20⟩
                                      refine wpAnyH_ready (rs := [12]) (by kernel_rfl) (by simp) ?_
                                      refine (AllReadyH.cons rfl (fun K hK => ?_) AllReadyH.nil)
                                      · go_simp
                                        refine (lay2_v x pn.name hps).mono ?_
                                        rintro e y ⟨v12, rfl, f12, hb⟩
                                        refine hK.out _ _ ?_ (fun hHeld2 => ?_)
                                        · exact HSK.out _ (ride_call hb hHeld.1)
                                        clear hK K
                                        have hHeld := hHeld2
                                        clear hHeld2
                                        try simp only [Act.put, List.setIfInBounds_toArray, List.set_cons_zero, List.set_cons_succ]
                                        have f5 := f5.along hb
                                        have f8 := f8.along hb
                                        have f20 := f20.along hb
                                        clear hb
                                        exact L5_8_12_20.out y v5 v8 v12 v20 ⟨hHeld, f5, f8, f12, f20⟩
                                  · intro x v5 v8 v12 ⟨hHeld, f5, f8, f12⟩
                                    refine wpAnyH_ready (rs := [17, 20]) (by kernel_rfl) (by simp) ?_
                                    refine (AllReadyH.cons rfl (fun K hK => ?_) (AllReadyH.cons rfl (fun K hK => ?_) AllReadyH.nil))
                                    · go_simp
                                      refine (lay1_v x pn.num hpn1 hpn2).mono ?_
                                      rintro e y ⟨v17, rfl, f17, hb⟩
                                      refine hK.out _ _ ?_ (fun hHeld2 => ?_)
                                      · exact HSK.out _ (ride_call hb hHeld.1)
                                      clear hK K
                                      have hHeld := hHeld2
                                      clear hHeld2
                                      try simp only [Act.put, List.setIfInBounds_toArray, List.set_cons_zero, List.set_cons_succ]
                                      have f5 := f5.along hb
                                      have f8 := f8.along hb
                                      have f12 := f12.along hb
                                      clear hb
                                      exact L5_8_12_17.out y v5 v8 v12 v17 ⟨hHeld, f5, f8, f12, f17⟩
                                    · go_simp
                                      refine hK.out _ _ ?_ (fun hHeld2 => ?_)
                                      · exact HSK.out _ (ride_alloc hHeld.1 _)
                                      clear hK K
                                      have hHeld := hHeld2
                                      clear hHeld2
                                      try simp only [Act.put, List.setIfInBounds_toArray, List.set_cons_zero, List.set_cons_succ]
                                      have f5 := f5.along (show Below x.heap.size x (x.alloc (.cells #[.int .u8 (pn.typ : Int)] 5)) from (Below.refl _ x).alloc (Nat.le_refl _) (.cells #[.int .u8 (pn.typ : Int)] 5))
                                      have f8 := f8.along (show Below x.heap.size x (x.alloc (.cells #[.int .u8 (pn.typ : Int)] 5)) from (Below.refl _ x).alloc (Nat.le_refl _) (.cells #[.int .u8 (pn.typ : Int)] 5))
                                      have f12 := f12.along (show Below x.heap.size x (x.alloc (.cells #[.int .u8 (pn.typ : Int)] 5)) from (Below.refl _ x).alloc (Nat.le_refl _) (.cells #[.int .u8 (pn.typ : Int)] 5))
                                      have f20 : Bytes (x.alloc (.cells #[.int .u8 (pn.typ : Int)] 5)) (x.alloc (.cells #[.int .u8 (pn.typ : Int)] 5)).heap.size (.slice (some ⟨x.heap.size, 0, none⟩) 1 1) [pn.typ] := (mine_one x pn.typ hpty).bytes
                                      obtain ⟨v20, hv20⟩ : ∃ v, v = Value.slice (some ⟨x.heap.size, 0, none⟩) 1 1 := ⟨_, rfl⟩
                                      rw [← hv20] at f20 ⊢
                                      clear hv20
                                      obtain ⟨y, hy⟩ : ∃ y, y = (x.alloc (.cells #[.int .u8 (pn.typ : Int)] 5)) := ⟨_, rfl⟩
                                      rw [← hy]
                                      rw [← hy] at hHeld f5 f8 f12 f20
                                      clear hy
                                      exact L5_8_12_20.out y v5 v8 v12 v20 ⟨hHeld, f5, f8, f12, f20⟩
                                · intro x v5 v12 v20 ⟨hHeld, f5, f12, f20⟩
                                  refine wpAnyH_ready (rs := [8, 17]) (by kernel_rfl) (by simp) ?_
                                  refine (AllReadyH.cons rfl (fun K hK => ?_) (AllReadyH.cons rfl (fun K hK => ?_) AllReadyH.nil))
                                  · go_simp
                                    refine hK.out _ _ ?_ (fun hHeld2 => ?_)
                                    · exact HSK.out _ (ride_alloc hHeld.1 _)
                                    clear hK K
                                    have hHeld := hHeld2
                                    clear hHeld2
                                    try simp only [Act.put, List.setIfInBounds_toArray, List.set_cons_zero, List.set_cons_succ]
                                    have f5 := f5.along (show Below x.heap.size x (x.alloc (.cells #[.int .u8 (pn.kind : Int)] 5)) from (Below.refl _ x).alloc (Nat.le_refl _) (.cells #[.int .u8 (pn.kind : Int)] 5))
                                    have f12 := f12.along (show Below x.heap.size x (x.alloc (.cells #[.int .u8 (pn.kind : Int)] 5)) from (Below.refl _ x).alloc (Nat.le_refl _) (.cells #[.int .u8 (pn.kind : Int)] 5))
                                    have f20 := f20.along (show Below x.heap.size x (x.alloc (.cells #[.int .u8 (pn.kind : Int)] 5)) from (Below.refl _ x).alloc (Nat.le_refl _) (.cells #[.int .u8 (pn.kind : Int)] 5))
                                    have f8 : Bytes (x.alloc (.cells #[.int .u8 (pn.kind : Int)] 5)) (x.alloc (.cells #[.int .u8 (pn.kind : Int)] 5)).heap.size (.slice (some ⟨x.heap.size, 0, none⟩) 1 1) [pn.kind] := (mine_one x pn.kind hpkd).bytes
                                    obtain ⟨v8, hv8⟩ : ∃ v, v = Value.slice (some ⟨x.heap.size, 0, none⟩) 1 1 := ⟨_, rfl⟩
                                    rw [← hv8] at f8 ⊢
                                    clear hv8
                                    obtain ⟨y, hy⟩ : ∃ y, y = (x.alloc (.cells #[.int .u8 (pn.kind : Int)] 5)) := ⟨_, rfl⟩
                                    rw [← hy]
                                    rw [← hy] at hHeld f5 f12 f20 f8
                                    clear hy
                                    exact L5_8_12_20.out y v5 v8 v12 v20 ⟨hHeld, f5, f8, f12, f20⟩
                                  · go_simp
                                    refine (lay1_v x pn.num hpn1 hpn2).mono ?_
                                    rintro e y ⟨v17, rfl, f17, hb⟩
                                    refine hK.out _ _ ?_ (fun hHeld2 => ?_)
                                    · exact HSK.out _ (ride_call hb hHeld.1)
                                    clear hK K
                                    have hHeld := hHeld2
                                    clear hHeld2
                                    try simp only [Act.put, List.setIfInBounds_toArray, List.set_cons_zero, List.set_cons_succ]
                                    have f5 := f5.along hb
                                    have f12 := f12.along hb
                                    have f20 := f20.along hb
                                    clear hb
                                    exact L5_12_17_20.out y v5 v12 v17 v20 ⟨hHeld, f5, f12, f17, f20⟩
                              · intro x v5 v12 v17 ⟨hHeld, f5, f12, f17⟩
                                refine wpAnyH_ready (rs := [8, 20, 23]) (by kernel_rfl) (by simp) ?_
                                refine (AllReadyH.cons rfl (fun K hK => ?_) (AllReadyH.cons rfl (fun K hK => ?_) (AllReadyH.cons rfl (fun K hK => ?_) AllReadyH.nil)))
                                · go_simp
                                  refine hK.out _ _ ?_ (fun hHeld2 => ?_)
                                  · exact HSK.out _ (ride_alloc hHeld.1 _)
                                  clear hK K
                                  have hHeld := hHeld2
                                  clear hHeld2
                                  try simp only [Act.put, List.setIfInBounds_toArray, List.set_cons_zero, List.set_cons_succ]
                                  have f5 := f5.along (show Below x.heap.size x (x.alloc (.cells #[.int .u8 (pn.kind : Int)] 5)) from (Below.refl _ x).alloc (Nat.le_refl _) (.cells #[.int .u8 (pn.kind : Int)] 5))
                                  have f12 := f12.along (show Below x.heap.size x (x.alloc (.cells #[.int .u8 (pn.kind : Int)] 5)) from (Below.refl _ x).alloc (Nat.le_refl _) (.cells #[.int .u8 (pn.kind : Int)] 5))
                                  have f17 := f17.along (show Below x.heap.size x (x.alloc (.cells #[.int .u8 (pn.kind : Int)] 5)) from (Below.refl _ x).alloc (Nat.le_refl _) (.cells #[.int .u8 (pn.kind : Int)] 5))
                                  have f8 : Bytes (x.alloc (.cells #[.int .u8 (pn.kind : Int)] 5)) (x.alloc (.cells #[.int .u8 (pn.kind : Int)] 5)).heap.size (.slice (some ⟨x.heap.size, 0, none⟩) 1 1) [pn.kind] := (mine_one x pn.kind hpkd).bytes
                                  obtain ⟨v8, hv8⟩ : ∃ v, v = Value.slice (some ⟨x.heap.size, 0, none⟩) 1 1 := ⟨_, rfl⟩
                                  rw [← hv8] at f8 ⊢
                                  clear hv8
                                  obtain ⟨y, hy⟩ : ∃ y, y = (x.alloc (.cells #[.int .u8 (pn.kind : Int)] 5)) := ⟨_, rfl⟩
                                  rw [← hy]
                                  rw [← hy] at hHeld f5 f12 f17 f8
                                  clear hy
                                  exact L5_8_12_17.out y v5 v8 v12 v17 ⟨hHeld, f5, f8, f12, f17⟩
                                · go_simp
                                  refine hK.out _ _ ?_ (fun hHeld2 => ?_)
                                  · exact HSK.out _ (ride_alloc hHeld.1 _)
                                  clear hK K
                                  have hHeld := hHeld2
                                  clear hHeld2
                                  try simp only [Act.put, List.setIfInBounds_toArray, List.set_cons_zero, List.set_cons_succ]
                                  have f5 := f5.along (show Below x.heap.size x (x.alloc (.cells #[.int .u8 (pn.typ : Int)] 5)) from (Below.refl _ x).alloc (Nat.le_refl _) (.cells #[.int .u8 (pn.typ : Int)] 5))
                                  have f12 := f12.along (show Below x.heap.size x (x.alloc (.cells #[.int .u8 (pn.typ : Int)] 5)) from (Below.refl _ x).alloc (Nat.le_refl _) (.cells #[.int .u8 (pn.typ : Int)] 5))
                                  have f17 := f17.along (show Below x.heap.size x (x.alloc (.cells #[.int .u8 (pn.typ : Int)] 5)) from (Below.refl _ x).alloc (Nat.le_refl _) (.cells #[.int .u8 (pn.typ : Int)] 5))
                                  have f20 : Bytes (x.alloc (.cells #[.int .u8 (pn.typ : Int)] 5)) (x.alloc (.cells #[.int .u8 (pn.typ : Int)] 5)).heap.size (.slice (some ⟨x.heap.size, 0, none⟩) 1 1) [pn.typ] := (mine_one x pn.typ hpty).bytes
                                  obtain ⟨v20, hv20⟩ : ∃ v, v = Value.slice (some ⟨x.heap.size, 0, none⟩) 1 1 := ⟨_, rfl⟩
                                  rw [← hv20] at f20 ⊢
                                  clear hv20
                                  obtain ⟨y, hy⟩ : ∃ y, y = (x.alloc (.cells #[.int .u8 (pn.typ : Int)] 5)) := ⟨_, rfl⟩
                                  rw [← hy]
                                  rw [← hy] at hHeld f5 f12 f17 f20
                                  clear hy
                                  exact L5_12_17_20.out y v5 v12 v17 v20 ⟨hHeld, f5, f12, f17, f20⟩
                                · go_simp
                                  refine (num_v pn.ref x hpr).mono ?_
                                  rintro e y ⟨v23, rfl, f23, hb⟩
                                  refine hK.out _ _ ?_ (fun hHeld2 => ?_)
                                  · exact HSK.out _ (ride_call hb hHeld.1)
                                  clear hK K
                                  have hHeld := hHeld2
                                  clear hHeld2
                                  try simp only [Act.put, List.setIfInBounds_toArray, List.set_cons_zero, List.set_cons_succ]
                                  have f5 := f5.along hb
                                  have f12 := f12.along hb
                                  have f17 := f17.along hb
                                  clear hb
                                  exact L5_12_17_23.out y v5 v12 v17 v23 ⟨hHeld, f5, f12, f17, f23⟩
                            · intro x v5 v8 v12 v20 ⟨hHeld, f5, f8, f12, f20⟩
                              refine wpAnyH_ready (rs := [17]) (by kernel_rfl) (by simp) ?_
                              refine (AllReadyH.cons rfl (fun K hK => ?_) AllReadyH.nil)
                              · go_simp
                                refine (lay1_v x pn.num hpn1 hpn2).mono ?_
                                rintro e y ⟨v17, rfl, f17, hb⟩
                                refine hK.out _ _ ?_ (fun hHeld2 => ?_)
                                · exact HSK.out _ (ride_call hb hHeld.1)
                                clear hK K
                                have hHeld := hHeld2
                                clear hHeld2
                                try simp only [Act.put, List.setIfInBounds_toArray, List.set_cons_zero, List.set_cons_succ]
                                have f5 := f5.along hb
                                have f8 := f8.along hb
                                have f12 := f12.along hb
                                have f20 := f20.along hb
                                clear hb
                                exact L5_8_12_17_20.out y v5 v8 v12 v17 v20 ⟨hHeld, f5, f8, f12, f17, f20⟩
                          · intro x v5 v8 v12 v17 ⟨hHeld, f5, f8, f12, f17⟩
                            refine wpAnyH_ready (rs := [20, 23]) (by kernel_rfl) (by simp) ?_
                            refine (AllReadyH.cons rfl (fun K hK => ?_) (AllReadyH.cons rfl (fun K hK => ?_) AllReadyH.nil))
                            · go_simp
                              refine hK.out _ _ ?_ (fun hHeld2 => ?_)
                              · exact HSK.out _ (ride_alloc hHeld.1 _)
                              clear hK K
                              have hHeld := hHeld2
                              clear hHeld2
                              try simp only [Act.put, List.setIfInBounds_toArray, List.set_cons_zero, List.set_cons_succ]
                              have f5 := f5.along (show Below x.heap.size x (x.alloc (.cells #[.int .u8 (pn.typ : Int)] 5)) from (Below.refl _ x).alloc (Nat.le_refl _) (.cells #[.int .u8 (pn.typ : Int)] 5))
                              have f8 := f8.along (show Below x.heap.size x (x.alloc (.cells #[.int .u8 (pn.typ : Int)] 5)) from (Below.refl _ x).alloc (Nat.le_refl _) (.cells #[.int .u8 (pn.typ : Int)] 5))
                              have f12 := f12.along (show Below x.heap.size x (x.alloc (.cells #[.int .u8 (pn.typ : Int)] 5)) from (Below.refl _ x).alloc (Nat.le_refl _) (.cells #[.int .u8 (pn.typ : Int)] 5))
                              have f17 := f17.along (show Below x.heap.size x (x.alloc (.cells #[.int .u8 (pn.typ : Int)] 5)) from (Below.refl _ x).alloc (Nat.le_refl _) (.cells #[.int .u8 (pn.typ : Int)] 5))
                              have f20 : Bytes (x.alloc (.cells #[.int .u8 (pn.typ : Int)] 5)) (x.alloc (.cells #[.int .u8 (pn.typ : Int)] 5)).heap.size (.slice (some ⟨x.heap.size, 0, none⟩) 1 1) [pn.typ] := (mine_one x pn.typ hpty).bytes
                              obtain ⟨v20, hv20⟩ : ∃ v, v = Value.slice (some ⟨x.heap.size, 0, none⟩) 1 1 := ⟨_, rfl⟩
                              rw [← hv20] at f20 ⊢
                              clear hv20
                              obtain ⟨y, hy⟩ : ∃ y, y = (x.alloc (.cells #[.int .u8 (pn.typ : Int)] 5)) := ⟨_, rfl⟩
                              rw [← hy]
                              rw [← hy] at hHeld f5 f8 f12 f17 f20
                              clear hy
                              exact L5_8_12_17_20.out y v5 v8 v12 v17 v20 ⟨hHeld, f5, f8, f12, f17, f20⟩
                            · go_simp
                              refine (num_v pn.ref x hpr).mono ?_
                              rintro e y ⟨v23, rfl, f23, hb⟩
                              refine hK.out _ _ ?_ (fun hHeld2 => ?_)
                              · exact HSK.out _ (ride_call hb hHeld.1)
                              clear hK K
                              have hHeld := hHeld2
                              clear hHeld2
                              try simp only [Act.put, List.setIfInBounds_toArray, List.set_cons_zero, List.set_cons_succ]
                              have f5 := f5.along hb
                              have f8 := f8.along hb
                              have f12 := f12.along hb
                              have f17 := f17.along hb
                              clear hb
                              exact L5_8_12_17_23.out y v5 v8 v12 v17 v23 ⟨hHeld, f5, f8, f12, f17, f23⟩
                        · intro x v5 v12 v17 v20 ⟨hHeld, f5, f12, f17, f20⟩
                          refine wpAnyH_ready (rs := [8, 23]) (by kernel_rfl) (by simp) ?_
                          refine (AllReadyH.cons rfl (fun K hK => ?_) (AllReadyH.cons rfl (fun K hK => ?_) AllReadyH.nil))
                          · go_simp
                            refine hK.out _ _ ?_ (fun hHeld2 => ?_)
                            · exact HSK.out _ (ride_alloc hHeld.1 _)
                            clear hK K
                            have hHeld := hHeld2
                            clear hHeld2
                            try simp only [Act.put, List.setIfInBounds_toArray, List.set_cons_zero, List.set_cons_succ]
                            have f5 := f5.along (show Below x.heap.size x (x.alloc (.cells #[.int .u8 (pn.kind : Int)] 5)) from (Below.refl _ x).alloc (Nat.le_refl _) (.cells #[.int .u8 (pn.kind : Int)] 5))
                            have f12 := f12.along (show Below x.heap.size x (x.alloc (.cells #[.int .u8 (pn.kind : Int)] 5)) from (Below.refl _ x).alloc (Nat.le_refl _) (.cells #[.int .u8 (pn.kind : Int)] 5))
                            have f17 := f17.along (show Below x.heap.size x (x.alloc (.cells #[.int .u8 (pn.kind : Int)] 5)) from (Below.refl _ x).alloc (Nat.le_refl _) (.cells #[.int .u8 (pn.kind : Int)] 5))
                            have f20 := f20.along (show Below x.heap.size x (x.alloc (.cells #[.int .u8 (pn.kind : Int)] 5)) from (Below.refl _ x).alloc (Nat.le_refl _) (.cells #[.int .u8 (pn.kind : Int)] 5))
                            have f8 : Bytes (x.alloc (.cells #[.int .u8 (pn.kind : Int)] 5)) (x.alloc (.cells #[.int .u8 (pn.kind : Int)] 5)).heap.size (.slice (some ⟨x.heap.size, 0, none⟩) 1 1) [pn.kind] := (mine_one x pn.kind hpkd).bytes
                            obtain ⟨v8, hv8⟩ : ∃ v, v = Value.slice (some ⟨x.heap.size, 0, none⟩) 1 1 := ⟨_, rfl⟩
                            rw [← hv8] at f8 ⊢
                            clear hv8
                            obtain ⟨y, hy⟩ : ∃ y, y = (x.alloc (.cells #[.int .u8 (pn.kind : Int)] 5)) := ⟨_, rfl⟩
                            rw [← hy]
                            rw [← hy] at hHeld f5 f12 f17 f20 f8
                            clear hy
                            exact L5_8_12_17_20.out y v5 v8 v12 v17 v20 ⟨hHeld, f5, f8, f12, f17, f20⟩
                          · go_simp
                            refine (num_v pn.ref x hpr).mono ?_
                            rintro e y ⟨v23, rfl, f23, hb⟩
                            refine hK.out _ _ ?_ (fun hHeld2 => ?_)
                            · exact HSK.out _ (ride_call hb hHeld.1)
                            clear hK K
                            have hHeld := hHeld2
                            clear hHeld2
                            try simp only [Act.put, List.setIfInBounds_toArray, List.set_cons_zero, List.set_cons_succ]
                            have f5 := f5.along hb
                            have f12 := f12.along hb
                            have f17 := f17.along hb
                            have f20 := f20.along hb
                            clear hb
                            exact L5_12_17_20_23.out y v5 v12 v17 v20 v23 ⟨hHeld, f5, f12, f17, f20, f23⟩
                      · intro x v5 v12 v17 v23 ⟨hHeld, f5, f12, f17, f23⟩
                        refine wpAnyH_ready (rs := [8, 20, 28]) (by kernel_rfl) (by simp) ?_
                        refine (AllReadyH.cons rfl (fun K hK => ?_) (AllReadyH.cons rfl (fun K hK => ?_) (AllReadyH.cons rfl (fun K hK => ?_) AllReadyH.nil)))
                        · go_simp
                          refine hK.out _ _ ?_ (fun hHeld2 => ?_)
                          · exact HSK.out _ (ride_alloc hHeld.1 _)
                          clear hK K
                          have hHeld := hHeld2
                          clear hHeld2
                          try simp only [Act.put, List.setIfInBounds_toArray, List.set_cons_zero, List.set_cons_succ]
                          have f5 := f5.along (show Below x.heap.size x (x.alloc (.cells #[.int .u8 (pn.kind : Int)] 5)) from (Below.refl _ x).alloc (Nat.le_refl _) (.cells #[.int .u8 (pn.kind : Int)] 5))
                          have f12 := f12.along (show Below x.heap.size x (x.alloc (.cells #[.int .u8 (pn.kind : Int)] 5)) from (Below.refl _ x).alloc (Nat.le_refl _) (.cells #[.int .u8 (pn.kind : Int)] 5))
                          have f17 := f17.along (show Below x.heap.size x (x.alloc (.cells #[.int .u8 (pn.kind : Int)] 5)) from (Below.refl _ x).alloc (Nat.le_refl _) (.cells #[.int .u8 (pn.kind : Int)] 5))
                          have f23 := f23.along (show Below x.heap.size x (x.alloc (.cells #[.int .u8 (pn.kind : Int)] 5)) from (Below.refl _ x).alloc (Nat.le_refl _) (.cells #[.int .u8 (pn.kind : Int)] 5))
                          have f8 : Bytes (x.alloc (.cells #[.int .u8 (pn.kind : Int)] 5)) (x.alloc (.cells #[.int .u8 (pn.kind : Int)] 5)).heap.size (.slice (some ⟨x.heap.size, 0, none⟩) 1 1) [pn.kind] := (mine_one x pn.kind hpkd).bytes
                          obtain ⟨v8, hv8⟩ : ∃ v, v = Value.slice (some ⟨x.heap.size, 0, none⟩) 1 1 := ⟨_, rfl⟩
                          rw [← hv8] at f8 ⊢
                          clear hv8
                          obtain ⟨y, hy⟩ : ∃ y, y = (x.alloc (.cells #[.int .u8 (pn.kind : Int)] 5)) := ⟨_, rfl⟩
                          rw [← hy]
                          rw [← hy] at hHeld f5 f12 f17 f23 f8
                          clear hy
                          exact L5_8_12_17_23.out y v5 v8 v12 v17 v23 ⟨hHeld, f5, f8, f12, f17, f23⟩
                        · go_simp
                          refine hK.out _ _ ?_ (fun hHeld2 => ?_)
                          · exact HSK.out _ (ride_alloc hHeld.1 _)
                          clear hK K
                          have hHeld := hHeld2
                          clear hHeld2
                          try simp only [Act.put, List.setIfInBounds_toArray, List.set_cons_zero, List.set_cons_succ]
                          have f5 := f5.along (show Below x.heap.size x (x.alloc (.cells #[.int .u8 (pn.typ : Int)] 5)) from (Below.refl _ x).alloc (Nat.le_refl _) (.cells #[.int .u8 (pn.typ : Int)] 5))
                          have f12 := f12.along (show Below x.heap.size x (x.alloc (.cells #[.int .u8 (pn.typ : Int)] 5)) from (Below.refl _ x).alloc (Nat.le_refl _) (.cells #[.int .u8 (pn.typ : Int)] 5))
                          have f17 := f17.along (show Below x.heap.size x (x.alloc (.cells #[.int .u8 (pn.typ : Int)] 5)) from (Below.refl _ x).alloc (Nat.le_refl _) (.cells #[.int .u8 (pn.typ : Int)] 5))
                          have f23 := f23.along (show Below x.heap.size x (x.alloc (.cells #[.int .u8 (pn.typ : Int)] 5)) from (Below.refl _ x).alloc (Nat.le_refl _) (.cells #[.int .u8 (pn.typ : Int)] 5))
                          have f20 : Bytes (x.alloc (.cells #[.int .u8 (pn.typ : Int)] 5)) (x.alloc (.cells #[.int .u8 (pn.typ : Int)] 5)).heap.size (.slice (some ⟨x.heap.size, 0, none⟩) 1 1) [pn.typ] := (mine_one x pn.typ hpty).bytes
                          obtain ⟨v20, hv20⟩ : ∃ v, v = Value.slice (some ⟨x.heap.size, 0, none⟩) 1 1 := ⟨_, rfl⟩
                          rw [← hv20] at f20 ⊢
                          clear hv20
                          obtain ⟨y, hy⟩ : ∃ y, y = (x.alloc (.cells #[.int .u8 (pn.typ : Int)] 5)) := ⟨_, rfl⟩
                          rw [← hy]
                          rw [← hy] at hHeld f5 f12 f17 f23 f20
                          clear hy
                          exact L5_12_17_20_23.out y v5 v12 v17 v20 v23 ⟨hHeld, f5, f12, f17, f20, f23⟩
                        · go_simp
                          rw [HKW.out]
                          refine (num_v kl x (Nat.lt_of_le_of_lt hkb (by decide))).mono ?_
                          rintro e y ⟨v28, rfl, f28, hb⟩
                          refine hK.out _ _ ?_ (fun hHeld2 => ?_)
                          · exact HSK.out _ (ride_call hb hHeld.1)
                          clear hK K
                          have hHeld := hHeld2
                          clear hHeld2
                          try simp only [Act.put, List.setIfInBounds_toArray, List.set_cons_zero, List.set_cons_succ]
                          have f5 := f5.along hb
                          have f12 := f12.along hb
                          have f17 := f17.along hb
                          have f23 := f23.along hb
                          clear hb
                          exact L5_12_17_23_28.out y v5 v12 v17 v23 v28 ⟨hHeld, f5, f12, f17, f23, f28⟩
                    · intro x v5 v8 v12 v17 v20 ⟨hHeld, f5, f8, f12, f17, f20⟩
                      refine wpAnyH_ready (rs := [23]) (by kernel_rfl) (by simp) ?_
                      refine (AllReadyH.cons rfl (fun K hK => ?_) AllReadyH.nil)
                      · go_simp
                        refine (num_v pn.ref x hpr).mono ?_
                        rintro e y ⟨v23, rfl, f23, hb⟩
                        refine hK.out _ _ ?_ (fun hHeld2 => ?_)
                        · exact HSK.out _ (ride_call hb hHeld.1)
                        clear hK K
                        have hHeld := hHeld2
                        clear hHeld2
                        try simp only [Act.put, List.setIfInBounds_toArray, List.set_cons_zero, List.set_cons_succ]
                        have f5 := f5.along hb
                        have f8 := f8.along hb
                        have f12 := f12.along hb
                        have f17 := f17.along hb
                        have f20 := f20.along hb
                        clear hb
                        exact L5_8_12_17_20_23.out y v5 v8 v12 v17 v20 v23 ⟨hHeld, f5, f8, f12, f17, f20, f23⟩
                  · intro x v5 v8 v12 v17 v23 ⟨hHeld, f5, f8, f12, f17, f23⟩
                    refine wpAnyH_ready (rs := [20, 28]) (by kernel_rfl) (by simp) ?_
                    refine (AllReadyH.cons rfl (fun K hK => ?_) (AllReadyH.cons rfl (fun K hK => ?_) AllReadyH.nil))
                    · go_simp
                      refine hK.out _ _ ?_ (fun hHeld2 => ?_)
                      · exact HSK.out _ (ride_alloc hHeld.1 _)
                      clear hK K
                      have hHeld := hHeld2
                      clear hHeld2
                      try simp only [Act.put, List.setIfInBounds_toArray, List.set_cons_zero, List.set_cons_succ]
                      have f5 := f5.along (show Below x.heap.size x (x.alloc (.cells #[.int .u8 (pn.typ : Int)] 5)) from (Below.refl _ x).alloc (Nat.le_refl _) (.cells #[.int .u8 (pn.typ : Int)] 5))
                      have f8 := f8.along (show Below x.heap.size x (x.alloc (.cells #[.int .u8 (pn.typ : Int)] 5)) from (Below.refl _ x).alloc (Nat.le_refl _) (.cells #[.int .u8 (pn.typ : Int)] 5))
                      have f12 := f12.along (show Below x.heap.size x (x.alloc (.cells #[.int .u8 (pn.typ : Int)] 5)) from (Below.refl _ x).alloc (Nat.le_refl _) (.cells #[.int .u8 (pn.typ : Int)] 5))
                      have f17 := f17.along (show Below x.heap.size x (x.alloc (.cells #[.int .u8 (pn.typ : Int)] 5)) from (Below.refl _ x).alloc (Nat.le_refl _) (.cells #[.int .u8 (pn.typ : Int)] 5))
                      have f23 := f23.along (show Below x.heap.size x (x.alloc (.cells #[.int .u8 (pn.typ : Int)] 5)) from (Below.refl _ x).alloc (Nat.le_refl _) (.cells #[.int .u8 (pn.typ : Int)] 5))
                      have f20 : Bytes (x.alloc (.cells #[.int .u8 (pn.typ : Int)] 5)) (x.alloc (.cells #[.int .u8 (pn.typ : Int)] 5)).heap.size (.slice (some ⟨x.heap.size, 0, none⟩) 1 1) [pn.typ] := (mine_one x pn.typ hpty).bytes
                      obtain ⟨v20, hv20⟩ : ∃ v, v = Value.slice (some ⟨x.heap.size, 0, none⟩) 1 1 := ⟨_, rfl⟩
                      rw [← hv20] at f20 ⊢
                      clear hv20
                      obtain ⟨y, hy⟩ : ∃ y, y = (x.alloc (.cells #[.int .u8 (pn.typ : Int)] 5)) := ⟨_, rfl⟩
                      rw [← hy]
                      rw [← hy] at hHeld f5 f8 f12 f17 f23 f20
                      clear hy
                      exact L5_8_12_17_20_23.out y v5 v8 v12 v17 v20 v23 ⟨hHeld, f5, f8, f12, f17, f20, f23⟩
                    · go_simp
                      rw [HKW.out]
                      refine (num_v kl x (Nat.lt_of_le_of_lt hkb (by decide))).mono ?_
                      rintro e y ⟨v28, rfl, f28, hb⟩
                      refine hK.out _ _ ?_ (fun hHeld2 => ?_)
                      · exact HSK.out _ (ride_call hb hHeld.1)
                      clear hK K
                      have hHeld := hHeld2
                      clear hHeld2
                      try simp only [Act.put, List.setIfInBounds_toArray, List.set_cons_zero, List.set_cons_succ]
                      have f5 := f5.along hb
                      have f8 := f8.along hb
                      have f12 := f12.along hb
                      have f17 := f17.along hb
                      have f23 := f23.along hb
                      clear hb
                      exact L5_8_12_17_23_28.out y v5 v8 v12 v17 v23 v28 ⟨hHeld, f5, f8, f12, f17, f23, f28⟩
                · intro x v5 v12 v17 v20 v23 ⟨hHeld, f5, f12, f17, f20, f23⟩
                  refine wpAnyH_ready (rs := [8, 28]) (by kernel_rfl) (by simp) ?_
                  refine (AllReadyH.cons rfl (fun K hK => ?_) (AllReadyH.cons rfl (fun K hK => ?_) AllReadyH.nil))
                  · go_simp
                    refine hK.out _ _ ?_ (fun hHeld2 => ?_)
                    · exact HSK.out _ (ride_alloc hHeld.1 _)
                    clear hK K
                    have hHeld := hHeld2
                    clear hHeld2
                    try simp only [Act.put, List.setIfInBounds_toArray, List.set_cons_zero, List.set_cons_succ]
                    have f5 := f5.along (show Below x.heap.size x (x.alloc (.cells #[.int .u8 (pn.kind : Int)] 5)) from (Below.refl _ x).alloc (Nat.le_refl _) (.cells #[.int .u8 (pn.kind : Int)] 5))
                    have f12 := f12.along (show Below x.heap.size x (x.alloc (.cells #[.int .u8 (pn.kind : Int)] 5)) from (Below.refl _ x).alloc (Nat.le_refl _) (.cells #[.int .u8 (pn.kind : Int)] 5))
                    have f17 := f17.along (show Below x.heap.size x (x.alloc (.cells #[.int .u8 (pn.kind : Int)] 5)) from (Below.refl _ x).alloc (Nat.le_refl _) (.cells #[.int .u8 (pn.kind : Int)] 5))
                    have f20 := f20.along (show Below x.heap.size x (x.alloc (.cells #[.int .u8 (pn.kind : Int)] 5)) from (Below.refl _ x).alloc (Nat.le_refl _) (.cells #[.int .u8 (pn.kind : Int)] 5))
                    have f23 := f23.along (show Below x.heap.size x (x.alloc (.cells #[.int .u8 (pn.kind : Int)] 5)) from (Below.refl _ x).alloc (Nat.le_refl _) (.cells #[.int .u8 (pn.kind : Int)] 5))
                    have f8 : Bytes (x.alloc (.cells #[.int .u8 (pn.kind : Int)] 5)) (x.alloc (.cells #[.int .u8 (pn.kind : Int)] 5)).heap.size (.slice (some ⟨x.heap.size, 0, none⟩) 1 1) [pn.kind] := (mine_one x pn.kind hpkd).bytes
                    obtain ⟨v8, hv8⟩ : ∃ v, v = Value.slice (some ⟨x.heap.size, 0, none⟩) 1 1 := ⟨_, rfl⟩
                    rw [← hv8] at f8 ⊢
                    clear hv8
                    obtain ⟨y, hy⟩ : ∃ y, y = (x.alloc (.cells #[.int .u8 (pn.kind : Int)] 5)) := ⟨_, rfl⟩
                    rw [← hy]
                    rw [← hy] at hHeld f5 f12 f17 f20 f23 f8
                    clear hy
                    exact L5_8_12_17_20_23.out y v5 v8 v12 v17 v20 v23 ⟨hHeld, f5, f8, f12, f17, f20, f23⟩
                  · go_simp
                    rw [HKW.out]
                    refine (num_v kl x (Nat.lt_of_le_of_lt hkb (by decide))).mono ?_
                    rintro e y ⟨v28, rfl, f28, hb⟩
                    refine hK.out _ _ ?_ (fun hHeld2 => ?_)
                    · exact HSK.out _ (ride_call hb hHeld.1)
                    clear hK K
                    have hHeld := hHeld2
                    clear hHeld2
                    try simp only [Act.put, List.setIfInBounds_toArray, List.set_cons_zero, List.set_cons_succ]
                    have f5 := f5.along hb
                    have f12 := f12.along hb
                    have f17 := f17.along hb
                    have f20 := f20.along hb
                    have f23 := f23.along hb
                    clear hb
                    exact L5_12_17_20_23_28.out y v5 v12 v17 v20 v23 v28 ⟨hHeld, f5, f12, f17, f20, f23, f28⟩
              · intro x v5 v12 v17 v23 v28 ⟨hHeld, f5, f12, f17, f23, f28⟩
                refine wpAnyH_ready (rs := [8, 20]) (by kernel_rfl) (by simp) ?_
                refine (AllReadyH.cons rfl (fun K hK => ?_) (AllReadyH.cons rfl (fun K hK => ?_) AllReadyH.nil))
                · go_simp
                  refine hK.out _ _ ?_ (fun hHeld2 => ?_)
                  · exact HSK.out _ (ride_alloc hHeld.1 _)
                  clear hK K
                  have hHeld := hHeld2
                  clear hHeld2
                  try simp only [Act.put, List.setIfInBounds_toArray, List.set_cons_zero, List.set_cons_succ]
                  have f5 := f5.along (show Below x.heap.size x (x.alloc (.cells #[.int .u8 (pn.kind : Int)] 5)) from (Below.refl _ x).alloc (Nat.le_refl _) (.cells #[.int .u8 (pn.kind : Int)] 5))
                  have f12 := f12.along (show Below x.heap.size x (x.alloc (.cells #[.int .u8 (pn.kind : Int)] 5)) from (Below.refl _ x).alloc (Nat.le_refl _) (.cells #[.int .u8 (pn.kind : Int)] 5))
                  have f17 := f17.along (show Below x.heap.size x (x.alloc (.cells #[.int .u8 (pn.kind : Int)] 5)) from (Below.refl _ x).alloc (Nat.le_refl _) (.cells #[.int .u8 (pn.kind : Int)] 5))
                  have f23 := f23.along (show Below x.heap.size x (x.alloc (.cells #[.int .u8 (pn.kind : Int)] 5)) from (Below.refl _ x).alloc (Nat.le_refl _) (.cells #[.int .u8 (pn.kind : Int)] 5))
                  have f28 := f28.along (show Below x.heap.size x (x.alloc (.cells #[.int .u8 (pn.kind : Int)] 5)) from (Below.refl _ x).alloc (Nat.le_refl _) (.cells #[.int .u8 (pn.kind : Int)] 5))
                  have f8 : Bytes (x.alloc (.cells #[.int .u8 (pn.kind : Int)] 5)) (x.alloc (.cells #[.int .u8 (pn.kind : Int)] 5)).heap.size (.slice (some ⟨x.heap.size, 0, none⟩) 1 1) [pn.kind] := (mine_one x pn.kind hpkd).bytes
                  obtain ⟨v8, hv8⟩ : ∃ v, v = Value.slice (some ⟨x.heap.size, 0, none⟩) 1 1 := ⟨_, rfl⟩
                  rw [← hv8] at f8 ⊢
                  clear hv8
                  obtain ⟨y, hy⟩ : ∃ y, y = (x.alloc (.cells #[.int .u8 (pn.kind : Int)] 5)) := ⟨_, rfl⟩
                  rw [← hy]
                  rw [← hy] at hHeld f5 f12 f17 f23 f28 f8
                  clear hy
                  exact L5_8_12_17_23_28.out y v5 v8 v12 v17 v23 v28 ⟨hHeld, f5, f8, f12, f17, f23, f28⟩
                · go_simp
                  refine hK.out _ _ ?_ (fun hHeld2 => ?_)
                  · exact HSK.out _ (ride_alloc hHeld.1 _)
                  clear hK K
                  have hHeld := hHeld2
                  clear hHeld2
                  try simp only [Act.put, List.setIfInBounds_toArray, List.set_cons_zero, List.set_cons_succ]
                  have f5 := f5.along (show Below x.heap.size x (x.alloc (.cells #[.int .u8 (pn.typ : Int)] 5)) from (Below.refl _ x).alloc (Nat.le_refl _) (.cells #[.int .u8 (pn.typ : Int)] 5))
                  have f12 := f12.along (show Below x.heap.size x (x.alloc (.cells #[.int .u8 (pn.typ : Int)] 5)) from (Below.refl _ x).alloc (Nat.le_refl _) (.cells #[.int .u8 (pn.typ : Int)] 5))
                  have f17 := f17.along (show Below x.heap.size x (x.alloc (.cells #[.int .u8 (pn.typ : Int)] 5)) from (Below.refl _ x).alloc (Nat.le_refl _) (.cells #[.int .u8 (pn.typ : Int)] 5))
                  have f23 := f23.along (show Below x.heap.size x (x.alloc (.cells #[.int .u8 (pn.typ : Int)] 5)) from (Below.refl _ x).alloc (Nat.le_refl _) (.cells #[.int .u8 (pn.typ : Int)] 5))
                  have f28 := f28.along (show Below x.heap.size x (x.alloc (.cells #[.int .u8 (pn.typ : Int)] 5)) from (Below.refl _ x).alloc (Nat.le_refl _) (.cells #[.int .u8 (pn.typ : Int)] 5))
                  have f20 : Bytes (x.alloc (.cells #[.int .u8 (pn.typ : Int)] 5)) (x.alloc (.cells #[.int .u8 (pn.typ : Int)] 5)).heap.size (.slice (some ⟨x.heap.size, 0, none⟩) 1 1) [pn.typ] := (mine_one x pn.typ hpty).bytes
                  obtain ⟨v20, hv20⟩ : ∃ v, v = Value.slice (some ⟨x.heap.size, 0, none⟩) 1 1 := ⟨_, rfl⟩
                  rw [← hv20] at f20 ⊢
                  clear hv20
                  obtain ⟨y, hy⟩ : ∃ y, y = (x.alloc (.cells #[.int .u8 (pn.typ : Int)] 5)) := ⟨_, rfl⟩
                  rw [← hy]
                  rw [← hy] at hHeld f5 f12 f17 f23 f28 f20
                  clear hy
                  exact L5_12_17_20_23_28.out y v5 v12 v17 v20 v23 v28 ⟨hHeld, f5, f12, f17, f20, f23, f28⟩
            · intro x v5 v8 v12 v17 v20 v23 ⟨hHeld, f5, f8, f12, f17, f20, f23⟩
              refine wpAnyH_ready (rs := [28]) (by kernel_rfl) (by simp) ?_
              refine (AllReadyH.cons rfl (fun K hK => ?_) AllReadyH.nil)
              · go_simp
                rw [HKW.out]
                refine (num_v kl x (Nat.lt_of_le_of_lt hkb (by decide))).mono ?_
                rintro e y ⟨v28, rfl, f28, hb⟩
                refine hK.out _ _ ?_ (fun hHeld2 => ?_)
                · exact HSK.out _ (ride_call hb hHeld.1)
                clear hK K
                have hHeld := hHeld2
                clear hHeld2
                try simp only [Act.put, List.setIfInBounds_toArray, List.set_cons_zero, List.set_cons_succ]
                have f5 := f5.along hb
                have f8 := f8.along hb
                have f12 := f12.along hb
                have f17 := f17.along hb
                have f20 := f20.along hb
                have f23 := f23.along hb
                clear hb
                exact L5_8_12_17_20_23_28.out y v5 v8 v12 v17 v20 v23 v28 ⟨hHeld, f5, f8, f12, f17, f20, f23, f28⟩
          · intro x v5 v8 v12 v17 v23 v28 ⟨hHeld, f5, f8, f12, f17, f23, f28⟩
            refine wpAnyH_ready (rs := [20]) (by kernel_rfl) (by simp) ?_
            refine (AllReadyH.cons rfl (fun K hK => ?_) AllReadyH.nil)
            · go_simp
              refine hK.out _ _ ?_ (fun hHeld2 => ?_)
              · exact HSK.out _ (ride_alloc hHeld.1 _)
              clear hK K
              have hHeld := hHeld2
              clear hHeld2
              try simp only [Act.put, List.setIfInBounds_toArray, List.set_cons_zero, List.set_cons_succ]
              have f5 := f5.along (show Below x.heap.size x (x.alloc (.cells #[.int .u8 (pn.typ : Int)] 5)) from (Below.refl _ x).alloc (Nat.le_refl _) (.cells #[.int .u8 (pn.typ : Int)] 5))
              have f8 := f8.along (show Below x.heap.size x (x.alloc (.cells #[.int .u8 (pn.typ : Int)] 5)) from (Below.refl _ x).alloc (Nat.le_refl _) (.cells #[.int .u8 (pn.typ : Int)] 5))
              have f12 := f12.along (show Below x.heap.size x (x.alloc (.cells #[.int .u8 (pn.typ : Int)] 5)) from (Below.refl _ x).alloc (Nat.le_refl _) (.cells #[.int .u8 (pn.typ : Int)] 5))
              have f17 := f17.along (show Below x.heap.size x (x.alloc (.cells #[.int .u8 (pn.typ : Int)] 5)) from (Below.refl _ x).alloc (Nat.le_refl _) (.cells #[.int .u8 (pn.typ : Int)] 5))
              have f23 := f23.along (show Below x.heap.size x (x.alloc (.cells #[.int .u8 (pn.typ : Int)] 5)) from (Below.refl _ x).alloc (Nat.le_refl _) (.cells #[.int .u8 (pn.typ : Int)] 5))
              have f28 := f28.along (show Below x.heap.size x (x.alloc (.cells #[.int .u8 (pn.typ : Int)] 5)) from (Below.refl _ x).alloc (Nat.le_refl _) (.cells #[.int .u8 (pn.typ : Int)] 5))
              have f20 : Bytes (x.alloc (.cells #[.int .u8 (pn.typ : Int)] 5)) (x.alloc (.cells #[.int .u8 (pn.typ : Int)] 5)).heap.size (.slice (some ⟨x.heap.size, 0, none⟩) 1 1) [pn.typ] := (mine_one x pn.typ hpty).bytes
              obtain ⟨v20, hv20⟩ : ∃ v, v = Value.slice (some ⟨x.heap.size, 0, none⟩) 1 1 := ⟨_, rfl⟩
              rw [← hv20] at f20 ⊢
              clear hv20
              obtain ⟨y, hy⟩ : ∃ y, y = (x.alloc (.cells #[.int .u8 (pn.typ : Int)] 5)) := ⟨_, rfl⟩
              rw [← hy]
              rw [← hy] at hHeld f5 f8 f12 f17 f23 f28 f20
              clear hy
              exact L5_8_12_17_20_23_28.out y v5 v8 v12 v17 v20 v23 v28 ⟨hHeld, f5, f8, f12, f17, f20, f23, f28⟩
        · intro x v5 v12 v17 v20 v23 v28 ⟨hHeld, f5, f12, f17, f20, f23, f28⟩
          refine wpAnyH_ready (rs := [8]) (by kernel_rfl) (by simp) ?_
          refine (AllReadyH.cons rfl (fun K hK => ?_) AllReadyH.nil)
          · go_simp
            refine hK.out _ _ ?_ (fun hHeld2 => ?_)
            · exact HSK.out _ (ride_alloc hHeld.1 _)
            clear hK K
            have hHeld := hHeld2
            clear hHeld2
            try simp only [Act.put, List.setIfInBounds_toArray, List.set_cons_zero, List.set_cons_succ]
            have f5 := f5.along (show Below x.heap.size x (x.alloc (.cells #[.int .u8 (pn.kind : Int)] 5)) from (Below.refl _ x).alloc (Nat.le_refl _) (.cells #[.int .u8 (pn.kind : Int)] 5))
            have f12 := f12.along (show Below x.heap.size x (x.alloc (.cells #[.int .u8 (pn.kind : Int)] 5)) from (Below.refl _ x).alloc (Nat.le_refl _) (.cells #[.int .u8 (pn.kind : Int)] 5))
            have f17 := f17.along (show Below x.heap.size x (x.alloc (.cells #[.int .u8 (pn.kind : Int)] 5)) from (Below.refl _ x).alloc (Nat.le_refl _) (.cells #[.int .u8 (pn.kind : Int)] 5))
            have f20 := f20.along (show Below x.heap.size x (x.alloc (.cells #[.int .u8 (pn.kind : Int)] 5)) from (Below.refl _ x).alloc (Nat.le_refl _) (.cells #[.int .u8 (pn.kind : Int)] 5))
            have f23 := f23.along (show Below x.heap.size x (x.alloc (.cells #[.int .u8 (pn.kind : Int)] 5)) from (Below.refl _ x).alloc (Nat.le_refl _) (.cells #[.int .u8 (pn.kind : Int)] 5))
            have f28 := f28.along (show Below x.heap.size x (x.alloc (.cells #[.int .u8 (pn.kind : Int)] 5)) from (Below.refl _ x).alloc (Nat.le_refl _) (.cells #[.int .u8 (pn.kind : Int)] 5))
            have f8 : Bytes (x.alloc (.cells #[.int .u8 (pn.kind : Int)] 5)) (x.alloc (.cells #[.int .u8 (pn.kind : Int)] 5)).heap.size (.slice (some ⟨x.heap.size, 0, none⟩) 1 1) [pn.kind] := (mine_one x pn.kind hpkd).bytes
            obtain ⟨v8, hv8⟩ : ∃ v, v = Value.slice (some ⟨x.heap.size, 0, none⟩) 1 1 := ⟨_, rfl⟩
            rw [← hv8] at f8 ⊢
            clear hv8
            obtain ⟨y, hy⟩ : ∃ y, y = (x.alloc (.cells #[.int .u8 (pn.kind : Int)] 5)) := ⟨_, rfl⟩
            rw [← hy]
            rw [← hy] at hHeld f5 f12 f17 f20 f23 f28 f8
            clear hy
            exact L5_8_12_17_20_23_28.out y v5 v8 v12 v17 v20 v23 v28 ⟨hHeld, f5, f8, f12, f17, f20, f23, f28⟩
      · intro x v5 v8 v12 v17 v20 v23 v28 ⟨hHeld, f5, f8, f12, f17, f20, f23, f28⟩
        obtain ⟨A5, n5, c5, rfl⟩ := f5.form2
        obtain ⟨A8, n8, c8, rfl⟩ := f8.form2
        obtain ⟨A12, n12, c12, rfl⟩ := f12.form2
        obtain ⟨A17, n17, c17, rfl⟩ := f17.form2
        obtain ⟨A20, n20, c20, rfl⟩ := f20.form2
        obtain ⟨A23, n23, c23, rfl⟩ := f23.form2
        obtain ⟨A28, n28, c28, rfl⟩ := f28.form2
        have hHeld0 := hHeld.1
        refine wpAnyH_ready (rs := [29]) (by kernel_rfl) (by simp) ?_
        refine AllReadyH.cons rfl (fun K hK => ?_) AllReadyH.nil
        go_simp
        refine hK.out _ _ ?_ (fun hHeld2 => ?_)
        · exact HSK.out _ (ride_alloc hHeld.1 _)
        clear hK K hHeld
        have hHeld := hHeld2
        clear hHeld2
        try simp only [Act.put, List.setIfInBounds_toArray, List.set_cons_zero, List.set_cons_succ]
        refine wpAnyH_ready (rs := [30]) (by kernel_rfl) (by simp) ?_
        refine AllReadyH.cons rfl (fun K hK => ?_) AllReadyH.nil
        go_simp
        refine (join_eight x _ _ _ _ _ _ _ _ _ _ _ _ _ _ _ _ (HP0.out _ hHeld0) f5 f8 f12 f17 f20 f23 f28 HJL.out).mono ?_
        rintro e x9 ⟨A9, n9, c9, rfl, hM9, hb9⟩
        refine hK.out _ _ ?_ (fun hHeld2 => ?_)
        · exact HSK.out _ (ride_call hb9 hHeld0)
        clear hK K hHeld
        have hHeld := hHeld2
        clear hHeld2
        try simp only [Act.put, List.setIfInBounds_toArray, List.set_cons_zero, List.set_cons_succ]
        refine take_at (i := 31) (v := ?_) (some 3) rfl rfl (by kernel_rfl) (by kernel_rfl) (by kernel_rfl) (fun _ _ _ h => h) (Or.inl ⟨by rfl, ?_⟩) (by assumption) ?_
        rotate_left
        · intro w hSw
          obtain ⟨hSb, z0, z1, z2, z3, z4, z5, z6⟩ := hSw
          first | (go_simp; done) | (go_simp; with_reducible rfl)
        try simp only [Act.put, List.setIfInBounds_toArray, List.set_cons_zero, List.set_cons_succ]
        refine wpAnyH_done (by kernel_rfl) ?_ _
        refine NoPanic.normal ?_
        have hM9 := hM9.lower hHeld0.size
        have hHK := hHeld.1
        clear hHeld hHeld0 hb9 f5 f8 f12 f17 f20 f23 f28
        obtain ⟨pre, hpre⟩ : ∃ pre, pre = (num N ++ nodesB 0 (ns.take k)) ++ ((num (pid - bf)) ++ (([pn.kind]) ++ ((num pn.name.size ++ str pn.name) ++ ((num (zig pn.num)) ++ (([pn.typ]) ++ ((num pn.ref) ++ ((num kl)))))))) := ⟨_, rfl⟩
        rw [← hpre] at hM9
        have hprel : pre.length + (pn.kids.flatMap num).length ≤ 1000000 := by
          have h1 := HLEN.out
          rw [HNBE.out] at h1
          rw [hpre]
          simp only [List.length_append, List.length_cons, List.length_nil, str_length, ← HKL.out] at h1 ⊢
          omega
        have HPRE := Lib.hid hpre
        have HPRL := Lib.hid hprel
        have HM9 := Lib.hid hM9
        have HHK := Lib.hid hHK
        obtain ⟨_, q0, q1, q2, q3, q4, q5, q6⟩ := HSK.out _ hHK
        clear hM9 hHK hpre hprel
        go_wp2_with fail
        go_loopw [3, 56] (fun pv iv wr => RKI wk pre pn.kids kl pv iv wr) (fun _ iv _ => kl - (intOf iv).toNat)
        case atStart => exact RKI.mk 0 (Nat.zero_le _) (by simpa using HM9.out) HHK.out
        case round =>
          obtain ⟨j, Aj, nj, cj, hj, rfl, rfl, hmj, hbj⟩ := hrel
          have HMJ := Lib.hid hmj
          have HBJ := Lib.hid hbj
          have hoj : Below wo.heap.size wo wr := HBK.out.trans (hbj.mono HBK.out.size)
          have hnj : nj ≤ 1000000 := by
            rw [hmj.len, List.length_append]
            have h1 := flat_take (ks := pn.kids) (k := j)
            have h2 := HPRL.out
            omega
          by_cases hlt2 : j < kl
          · have hltI2 : (j : Int) < (kl : Int) := by omega
            obtain ⟨q, hq⟩ : ∃ q, pn.kids[j]? = some q := ⟨_, List.getElem?_eq_getElem (by rw [← HKL.out]; exact hlt2)⟩
            obtain ⟨ad, hA2, hadb, hadc⟩ := (HPI.out.below hoj).at_ hq
            subst hA2
            have hq64 := HKS.out q (List.mem_of_getElem? hq)
            have hkt : pn.kids.take (j + 1) = pn.kids.take j ++ [q] := by rw [List.take_add_one, hq]; rfl
            have HKT := Lib.hid hkt
            have HNUM2 := Lib.hid (refNum_any q wr hq64)
            have hnql : (num q).length ≤ 1000000 := by
              have h1 := flat_take (ks := pn.kids) (k := j + 1)
              rw [hkt, List.flatMap_append, List.length_append] at h1
              simp only [List.flatMap_cons, List.flatMap_nil, List.append_nil] at h1
              have h2 := HPRL.out
              omega
            have HNQ := Lib.hid hnql
            clear hq hmj hbj hoj hadb hq64 hkt hnql
            go_wp2_with (first
              | (go_at_call 51; (with_reducible refine (HNUM2.out).mono ?_); rintro e w2 ⟨A2, n2, c2, rfl, hM2, hb2⟩; go_loud (
                  have hn2 : n2 ≤ 1000000 := (by rw [hM2.len]; exact HNQ.out);
                  have HN2L := Lib.hid hM2.len;
                  have HM2 := Lib.hid hM2;
                  have HB2 := Lib.hid hb2;
                  have HO2 := Lib.hid (HMJ.out.below hb2).own;
                  clear hM2 hb2))
              | (at_builtin; refine wpList_append_bytes (by rfl) (.tmp 60) (.tmp 62) 42 (by rfl) wk.heap.size 5 i0 (.int .u8 0) Try.underlying42 HI.out H0.out H1.out H2.out (by rfl) (.slice Aj nj cj) nj _ (by rfl) HO2.out A2 n2 c2 _ (num q) (by rfl) HM2.out.bytes (by omega) (Nat.le_trans HBJ.out.size HB2.out.size) ?_; intro v3 w3 hown3 hg3; go_loud (
                  have hb3 := (HBJ.out.trans (HB2.out.mono HBJ.out.size)).grown hg3 (Nat.le_trans HBJ.out.size HB2.out.size) (fun g hg => (World.ownsRow.lt HO2.out g hg).1);
                  obtain ⟨A3, c3, rfl⟩ := row_form hown3;
                  have HO3 := Lib.hid hown3;
                  have HB3 := Lib.hid hb3;
                  clear hown3 hg3 hb3)))
            have hM3 : Mine w3 wk.heap.size A3 (nj + n2) c3 (pre ++ (pn.kids.take (j + 1)).flatMap num) := by
              have e : pre ++ (pn.kids.take (j + 1)).flatMap num = (pre ++ (pn.kids.take j).flatMap num) ++ num q := by rw [HKT.out, List.flatMap_append, List.append_assoc]; simp
              rw [e]
              refine ⟨by rw [byt_append]; exact HO3.out, by rw [List.length_append, HMJ.out.len, HM2.out.len], small_append HMJ.out.small HM2.out.small⟩
            have hfin := RKI.mk (K := kl) (j + 1) (by omega) hM3 HB3.out
            clear hM3
            first
              | (go_roundw; (case rel => exact hfin); (case measure => simp [intOf]; omega))
              | (refine ⟨⟨_, _, _, _, _, _, _, _, _, _, _, _, _, _, _, _, _, hfin, rfl⟩, ?measure⟩; (case measure => simp [intOf]; omega))
              | (refine ⟨hfin, ?measure⟩; (case measure => simp [intOf]; omega))
          · have hltI2 : ¬ (j : Int) < (kl : Int) := by omega
            have hjk : j = kl := by omega
            obtain ⟨_, s0, s1, s2, s3, s4, s5, s6⟩ := HSK.out _ hbj
            have hMf : Mine wr w.heap.size Aj nj cj (num N ++ nodesB 0 (ns.take (k + 1))) := by
              have h1 := hmj.lower (base' := w.heap.size) (Nat.le_trans HB.out.size HBK.out.size)
              have e : pre ++ (pn.kids.take j).flatMap num = num N ++ nodesB 0 (ns.take (k + 1)) := by
                rw [hjk, HKL.out, List.take_length, HPRE.out, HK1.out, nodesB_snoc]
                dsimp only
                rw [← HBF.out, HNBE.out, HKL.out]
                simp [List.append_assoc]
              rw [e] at h1
              exact h1
            have hfin := RBI.mk (w := w) (ns := ns) (N := N) (bv := .int .u64 (pid : Int)) (k + 1) (by omega) (by rw [HK1.out, lastId_snoc]) hMf (HB.out.trans (hoj.mono HB.out.size))
            clear hMf hmj hbj hoj
            go_wp2_with fail
            first
              | (go_roundw; (case rel => exact hfin); (case measure => simp [intOf]; omega))
              | (refine ⟨⟨_, _, _, _, _, _, _, _, _, _, _, _, _, _, _, _, _, hfin, rfl⟩, ?measure⟩; (case measure => simp [intOf]; omega))
              | (refine ⟨hfin, ?measure⟩; (case measure => simp [intOf]; omega))
    · have hltI : ¬ (k : Int) < (N : Int) := by omega
      have hkN : k = N := by omega
      go_wp2_with fail
      go_ret
      refine ⟨Ao, no, co, rfl, ?_, HB.out⟩
      have h1 := HMO.out
      rw [hkN, List.take_of_length_le (by rw [← HNL.out]; omega)] at h1
      unfold arenaB
      rw [← HNL.out]
      exact h1
end Go.Proofs.Ytdphpjlhkamadaa
