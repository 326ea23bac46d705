/- Contracts: nodes are laid into an arena, and into the reference's list. -/
import Derived.Test.YtdphpjlhkamadaaARPut
namespace Go.Proofs.Ytdphpjlhkamadaa
open Go.RowKit Go.Shelf
set_option linter.unusedSimpArgs false
set_option linter.unusedVariables false
set_option maxRecDepth 100000
attribute [local go_sem] Oper.semAt_some undef
/-- Rows of nodes that came in, as memory has them. -/
structure RowsIn (w : World) (B : Nat) (A : Option Addr) (n : Nat) (rs : List (Nat × Nd)) : Prop where
  len : n = rs.length
  long : n ≤ maxLen
  row : ∀ (k : Nat) (p : Nat × Nd), rs[k]? = some p → ∃ (ad q : Addr) (Ak : Option Addr) (ck : Nat), A = some ad ∧ q = ad.add (k * 7) ∧ q.block < B ∧ w.cell? q = some (.int .u64 (p.1 : Int)) ∧ w.cell? ⟨q.block, q.off + 1, none⟩ = some (.int .u8 (p.2.kind : Int)) ∧ w.cell? ⟨q.block, q.off + 2, none⟩ = some (.string p.2.name) ∧
    w.cell? ⟨q.block, q.off + 3, none⟩ = some (.int .i64 p.2.num) ∧ w.cell? ⟨q.block, q.off + 4, none⟩ = some (.int .u8 (p.2.typ : Int)) ∧ w.cell? ⟨q.block, q.off + 5, none⟩ = some (.int .u64 (p.2.ref : Int)) ∧ w.cell? ⟨q.block, q.off + 6, none⟩ = some (.slice Ak p.2.kids.length ck) ∧
    IdIn w B Ak ck p.2.kids ∧ NdOk p.2 ∧ p.1 < 18446744073709551616
theorem RowsIn.below {w w' : World} {B n : Nat} {A : Option Addr} {rs : List (Nat × Nd)} (h : RowsIn w B A n rs) (hb : Below B w w') : RowsIn w' B A n rs := by
  refine ⟨h.len, h.long, fun k p hp => ?_⟩
  obtain ⟨ad, q, Ak, ck, e1, e2, hq, c0, c1, c2, c3, c4, c5, c6, hi, h7⟩ := h.row k p hp
  exact ⟨ad, q, Ak, ck, e1, e2, hq, (hb.cell hq).trans c0, (hb.cell (p := ⟨q.block, q.off + 1, none⟩) hq).trans c1, (hb.cell (p := ⟨q.block, q.off + 2, none⟩) hq).trans c2, (hb.cell (p := ⟨q.block, q.off + 3, none⟩) hq).trans c3, (hb.cell (p := ⟨q.block, q.off + 4, none⟩) hq).trans c4, (hb.cell (p := ⟨q.block, q.off + 5, none⟩) hq).trans c5, (hb.cell (p := ⟨q.block, q.off + 6, none⟩) hq).trans c6, hi.below hb, h7⟩
def layS (acc : List (Nat × Nd)) (p : Nat × Nd) (i : Nat) : List (Nat × Nd) := if i < 30 ∧ p.1 ≠ 0 then putL' acc p.1 (fewNd p.2) else acc
def layF : List (Nat × Nd) → List (Nat × Nd) → Nat → List (Nat × Nd)
  | acc, [], _ => acc
  | acc, p :: r, i => layF (layS acc p i) r (i + 1)
theorem layF_snoc : ∀ (l : List (Nat × Nd)) (acc : List (Nat × Nd)) (p : Nat × Nd) (i : Nat), layF acc (l ++ [p]) i = layS (layF acc l i) p (i + l.length)
  | [], acc, p, i => rfl
  | q :: l, acc, p, i => by
    show layF (layS acc q i) (l ++ [p]) (i + 1) = layS (layF (layS acc q i) l (i + 1)) p (i + (l.length + 1))
    rw [layF_snoc l, show i + (l.length + 1) = i + 1 + l.length by omega]
/-- The nodes that lie in the arena. -/
def layL (rs : List (Nat × Nd)) : List (Nat × Nd) := layF [(1, progNd)] rs 0
theorem layL_next {rs : List (Nat × Nd)} {k : Nat} {p : Nat × Nd} (hp : rs[k]? = some p) : layL (rs.take (k + 1)) = layS (layL (rs.take k)) p k := by
  have hk := (List.getElem?_eq_some_iff.1 hp).1
  have ht : rs.take (k + 1) = rs.take k ++ [p] := by rw [List.take_add_one, hp]; rfl
  unfold layL
  rw [ht, layF_snoc, List.length_take, Nat.min_eq_left (by omega), Nat.zero_add]
/-- Few nodes, each with few kids. -/
structure Few (ns : List (Nat × Nd)) (m : Nat) : Prop where
  rise : Rise ns
  len : ns.length ≤ m + 1
  kids : ∀ p ∈ ns, p.2.kids.length ≤ 12
theorem Few.start : Few [(1, progNd)] 0 := ⟨by unfold Rise; simp, by simp, by simp [progNd]⟩
theorem Few.put {ns : List (Nat × Nd)} {m : Nat} (h : Few ns m) (id : Nat) (n : Nd) : Few (putL' ns id (fewNd n)) (m + 1) := by
  refine ⟨h.rise.put _ _, ?_, fun p hp => ?_⟩
  · rw [putL_length _ _ h.rise]
    have := h.len
    split <;> omega
  · rcases putL_mem hp with rfl | hp
    · show (n.kids.take 12).length ≤ 12
      rw [List.length_take]; omega
    · exact h.kids p hp
theorem Few.more {ns : List (Nat × Nd)} {m m' : Nat} (h : Few ns m) (hm : m ≤ m') : Few ns m' := ⟨h.rise, Nat.le_trans h.len (by omega), h.kids⟩
theorem Few.old {ns : List (Nat × Nd)} {m : Nat} (h : Few ns m) (id : Nat) : ((getL ns id).getD zeroNd).kids.length ≤ 12 := by
  cases hg : getL ns id with
  | none => exact Nat.zero_le _
  | some n => exact h.kids _ (getL_mem hg)
theorem Few.sum {ns : List (Nat × Nd)} {m : Nat} (h : Few ns m) : sumU ns [] ≤ 12 * (m + 1) := by
  have h1 : ∀ l : List (Nat × Nd), (∀ p ∈ l, p.2.kids.length ≤ 12) → sumU l [] ≤ 12 * l.length := fun l => by
    induction l with
    | nil => intro _; exact Nat.le_refl _
    | cons p r ih =>
      intro hk
      have h2 := ih fun q hq => hk q (by simp [hq])
      have h3 := hk p (by simp)
      unfold sumU at h2 ⊢
      rw [List.map_cons, List.sum_cons, if_neg (by simp), List.length_cons]
      omega
  exact Nat.le_trans (h1 ns h.kids) (Nat.mul_le_mul_left _ h.len)
theorem xNs_put {id : Nat} {v : Value} {n : Nd} (xs : XL) : xNs (putL' xs id (v, n)) = putL' (xNs xs) id n := by unfold xNs; rw [← putL_map]
theorem xNs_rise {xs : XL} (h : Rise (xNs xs)) : Rise xs := by
  unfold xNs Rise mapL at h
  rw [List.pairwise_map] at h
  exact h
theorem xNs_length (xs : XL) : (xNs xs).length = xs.length := by unfold xNs mapL; rw [List.length_map]
theorem XR.touch {w w' : World} {base b0 ga gm gp N : Nat} {F : PF} {vs : List (Nat × Value)} {ns : List (Nat × Nd)} {v : Value} {xs : XL} (h : XR w base v xs) (hA : AR w b0 ga gm gp F vs ns N) (hT : Touch w w' (OwnA gm gp F)) : XR w' base v xs := h.keep hT.size fun g cs t z ht hg => (hA.other hT hg (by rcases ht with e | e <;> rw [e] <;> decide)).trans hg.symm
/-- What lay keeps at the head of its loop. -/
def LayI (w : World) (b0 ga gm gp : Nat) (rs : List (Nat × Nd)) (N : Nat) (xv iv : Value) (wr : World) : Prop :=
  ∃ (k : Nat) (xs : XL) (F : PF) (vs : List (Nat × Value)), k ≤ N ∧ iv = .int .i64 (k : Int) ∧ XR wr w.heap.size xv xs ∧ xNs xs = layL (rs.take k) ∧ AR wr b0 ga gm gp F vs (layL (rs.take k)) (24 * min k 30) ∧ Few (layL (rs.take k)) (min k 30) ∧ Below w.heap.size w wr
theorem LayI.mk {w : World} {b0 ga gm gp : Nat} {rs : List (Nat × Nd)} {N : Nat} {xv : Value} {wr : World} (k : Nat) (xs : XL) (F : PF) (vs : List (Nat × Value)) (h1 : k ≤ N) (h2 : XR wr w.heap.size xv xs) (h3 : xNs xs = layL (rs.take k)) (h4 : AR wr b0 ga gm gp F vs (layL (rs.take k)) (24 * min k 30)) (h5 : Few (layL (rs.take k)) (min k 30)) (h6 : Below w.heap.size w wr) : LayI w b0 ga gm gp rs N xv (.int .i64 (k : Int)) wr := ⟨k, xs, F, vs, h1, rfl, h2, h3, h4, h5, h6⟩
def LayR (w : World) (rs : List (Nat × Nd)) (e : Ending) (w' : World) : Prop :=
  ∃ (b0 ga gm gp : Nat) (xv : Value) (xs : XL) (F : PF) (vs : List (Nat × Value)), e = .returned (.tuple #[.pointer (some ⟨ga, 0, none⟩), xv]) ∧ w.heap.size ≤ b0 ∧ XR w' w.heap.size xv xs ∧ xNs xs = layL rs ∧ AR w' b0 ga gm gp F vs (layL rs) 720 ∧ Few (layL rs) 30 ∧ Below w.heap.size w w'
set_option maxHeartbeats 4000000 in
theorem lay_any (w : World) (A : Option Addr) (N c : Nat) (rs : List (Nat × Nd)) (h : RowsIn w w.heap.size A N rs) : Calls Try.prog 9 #[.slice A N c] w (LayR w rs) := by
  have HNW := Lib.hid (new_any w)
  have HRI := Lib.hid h
  have hNl : N ≤ 9223372036854775807 := by have := h.long; unfold maxLen at this; omega
  clear h
  go_enter Try.func9, Try.ntmps9
  go_wp2_with (first
    | (go_at_call 36; (with_reducible refine (HNW.out).mono ?_); rintro e w1 ⟨ga, gm, gp, F, vs, rfl, hA, hb1⟩; go_loud (
        have HA := Lib.hid hA;
        have HB1 := Lib.hid hb1;
        clear hA hb1)))
  have hst : LayI w w.heap.size ga gm gp rs N (.slice (some ⟨w1.heap.size, 0, none⟩) 1 1) (.int .i64 ((0 : Nat) : Int)) (w1.alloc (.cells #[.int .u64 1, .int .u8 1, .string ⟨#[]⟩, .int .i64 0, .int .u8 0, .int .u64 0, .slice none 0 0] 69)) := by
    refine LayI.mk 0 [(1, (ndV progNd (.slice none 0 0), progNd))] F vs (Nat.zero_le _) ⟨⟨rfl, .inr ⟨w1.heap.size, 1, #[.int .u64 1, .int .u8 1, .string ⟨#[]⟩, .int .i64 0, .int .u8 0, .int .u64 0, .slice none 0 0], rfl, HB1.out.size, Go.heap_alloc_new _ _, Nat.le_refl _, by unfold maxLen; omega, rfl, rfl⟩⟩, fun p hp => ?_, fun p hp => ?_⟩ rfl ((HA.out.below ((Below.refl _ _).alloc (Nat.le_refl _) _)).more (Nat.zero_le _)) Few.start (HB1.out.alloc HB1.out.size _)
    · rw [List.mem_singleton] at hp
      rw [hp]
      exact ⟨⟨none, 0, rfl, IdSl.nil _ _⟩, ⟨by decide, by decide, by decide, by decide, by decide⟩⟩
    · rw [List.mem_singleton] at hp
      rw [hp]
      show 1 < 18446744073709551616
      omega
  have HST := Lib.hid hst
  clear hst
  go_loopw [5, 15] (fun xv iv wr => LayI w w.heap.size ga gm gp rs N xv iv wr) (fun _ iv _ => N - (intOf iv).toNat)
  case atStart => exact HST.out
  case round =>
    obtain ⟨k, xs, F1, vs1, hk, rfl, hx, hns, hA, hfw, hb⟩ := hrel
    obtain ⟨Ax, cx, rfl⟩ := row_form hx.own
    have HX := Lib.hid hx
    have HNS := Lib.hid hns
    have HA := Lib.hid hA
    have HFW := Lib.hid hfw
    have HB := Lib.hid hb
    have hxl : xs.length ≤ 31 := by
      have h1 := hfw.len
      rw [← hns, xNs_length] at h1
      omega
    obtain ⟨nx, hnx⟩ : ∃ nx, nx = xs.length := ⟨_, rfl⟩
    rw [← hnx] at hxl ⊢
    have HNX := Lib.hid hnx
    clear hx hns hA hfw hb hnx
    by_cases hlt : k < N
    · have hltI : (k : Int) < (N : Int) := by omega
      obtain ⟨p, hp⟩ : ∃ p, rs[k]? = some p := by rw [HRI.out.len] at hlt; exact ⟨_, List.getElem?_eq_getElem hlt⟩
      obtain ⟨ad, q, Ak, ck, hAd, hq, hqb, c0, c1, c2, c3, c4, c5, c6, hi, hok, hp64⟩ := (HRI.out.below HB.out).row k p hp
      have hnext := layL_next hp
      have HNXT := Lib.hid hnext
      obtain ⟨pid, pn⟩ := p
      dsimp only at c0 c1 c2 c3 c4 c5 c6 hi hok hp64
      have HI := Lib.hid hi
      have HOK := Lib.hid hok
      clear hi hok hp hnext
      subst hAd
      rw [hq] at c0 c1 c2 c3 c4 c5 c6
      clear hq
      by_cases h30 : k < 30
      · have h30I : (k : Int) < 30 := by omega
        by_cases hz : pid = 0
        · subst hz
          go_wp2_with fail
          have hsk : layL (rs.take (k + 1)) = layL (rs.take k) := by rw [HNXT.out]; unfold layS; rw [if_neg (by first | (simp; done) | (simp; omega))]
          refine ⟨LayI.mk (k + 1) xs F1 vs1 (by omega) (by rw [HNX.out]; exact HX.out.below ((Below.refl _ _).alloc (Nat.le_refl _) _)) (by rw [hsk]; exact HNS.out) (by rw [hsk]; exact (HA.out.below ((Below.refl _ _).alloc (Nat.le_refl _) _)).more (by omega)) (by rw [hsk]; exact HFW.out.more (by omega)) (HB.out.alloc HB.out.size _), ?measure⟩
          case measure =>
            simp [intOf]
            omega
        · have hzD : ((pid : Int) != 0) = true := by simp; omega
          obtain ⟨o, ho⟩ : ∃ o, o = fewNd pn := ⟨_, rfl⟩
          have HO := Lib.hid ho
          have hbr : Below wr.heap.size wr (wr.alloc (.cells #[.int .u64 (pid : Int), .int .u8 (pn.kind : Int), .string pn.name, .int .i64 pn.num, .int .u8 (pn.typ : Int), .int .u64 (pn.ref : Int), .slice Ak pn.kids.length ck] 69)) := (Below.refl _ _).alloc (Nat.le_refl _) _
          have hbx : (wr.alloc (.cells #[.int .u64 (pid : Int), .int .u8 (pn.kind : Int), .string pn.name, .int .i64 pn.num, .int .u8 (pn.typ : Int), .int .u64 (pn.ref : Int), .slice Ak pn.kids.length ck] 69)).heap[wr.heap.size]? = some (.cells #[.int .u64 (pid : Int), .int .u8 (pn.kind : Int), .string pn.name, .int .i64 pn.num, .int .u8 (pn.typ : Int), .int .u64 (pn.ref : Int), .slice Ak pn.kids.length ck] 69 (0, 0)) := Go.heap_alloc_new _ _
          have HBR := Lib.hid hbr
          have HBX := Lib.hid hbx
          have hwwr : w.heap.size ≤ wr.heap.size := HB.out.size
          have hfew := few_any _ pn Ak ck ((HI.out.below (hbr.mono hwwr)).up (Nat.le_trans hwwr hbr.size)) HOK.out
          unfold ndV at hfew
          have HFEW := Lib.hid hfew
          clear ho hbr hbx hfew
          go_wp2_with (first
            | (go_at_call 33; go_loud (
              (with_reducible refine (HFEW.out).mono ?_);
              rintro e w2 ⟨A1, c1', rfl, hi2, hf2, hb2⟩;
              rw [← HO.out] at hi2 ⊢;
              have hb12 := HBR.out.trans (hb2.mono HBR.out.size);
              have hx2 := (hb2.block _ (lt_of_heap2 HBX.out)).trans HBX.out;
              obtain ⟨d0, d1, d2, d3, d4, d5, d6⟩ := box7 hx2;
              have hb3 : Below wr.heap.size wr (w2.alloc (.cells #[.int .u8 (o.kind : Int), .string o.name, .int .i64 o.num, .int .u8 (o.typ : Int), .int .u64 (o.ref : Int), .slice A1 o.kids.length c1'] 33)) := hb12.alloc hb12.size _;
              have hx3 : (w2.alloc (.cells #[.int .u8 (o.kind : Int), .string o.name, .int .i64 o.num, .int .u8 (o.typ : Int), .int .u64 (o.ref : Int), .slice A1 o.kids.length c1'] 33)).heap[w2.heap.size]? = some (.cells #[.int .u8 (o.kind : Int), .string o.name, .int .i64 o.num, .int .u8 (o.typ : Int), .int .u64 (o.ref : Int), .slice A1 o.kids.length c1'] 33 (0, 0)) := Go.heap_alloc_new _ _;
              have hbe : Below w2.heap.size w2 (w2.alloc (.cells #[.int .u8 (o.kind : Int), .string o.name, .int .i64 o.num, .int .u8 (o.typ : Int), .int .u64 (o.ref : Int), .slice A1 o.kids.length c1'] 33)) := (Below.refl _ _).alloc (Nat.le_refl _) _;
              have hi3 := (hi2.below hbe).up hbe.size;
              have hokO : NdOk o := by rw [HO.out]; exact fewNd_ok HOK.out;
              have hko : o.kids.length ≤ 12 := by rw [HO.out]; show (pn.kids.take 12).length ≤ 12; rw [List.length_take]; omega;
              have hput := put_good _ _ ga gm gp pid _ F1 vs1 _ o A1 c1' (HA.out.below hb3) hp64 hz (.inr (by have := HFW.out.len; omega)) ⟨⟨A1, c1', rfl, hi3⟩, hokO⟩ hi3 (by have := HFW.out.old pid; omega) (by have := HFW.out.len; omega);
              unfold ndV at hput ⊢;
              have HPUT := Lib.hid hput;
              have HB3 := Lib.hid hb3;
              have HX3 := Lib.hid hx3;
              have hxr0 := (hbe.block _ (lt_of_heap2 hx2)).trans hx2;
              obtain ⟨g0, g1, g2, g3, g4, g5, g6⟩ := box7 hxr0;
              have HXR := Lib.hid hxr0;
              have HI3 := Lib.hid hi3;
              have HOKO := Lib.hid hokO;
              have HKO := Lib.hid hko;
              clear hi2 hf2 hb2 hb12 hx2 hb3 hx3 hbe hi3 hokO hko hput hxr0))
            | (go_at_call 27; go_loud (
              (with_reducible refine (HPUT.out).mono ?_);
              rintro e w4 ⟨rfl, F4, vs4, hA4, hT4, hO4⟩;
              have hA3 := HA.out.below HB3.out;
              have hx4 := hA3.other hT4 HX3.out (by decide);
              have hr4 := hA3.other hT4 HXR.out (by decide);
              obtain ⟨m0, m1, m2, m3, m4, m5, _⟩ := box_cells hx4;
              obtain ⟨r0, r1, r2, r3, r4, r5, r6⟩ := box7 hr4;
              have hi4 := (HI3.out.keep fun j cs z _ hj => (hA3.other hT4 hj (by decide)).trans hj.symm).up hT4.size;
              have hxr4 : XR w4 w.heap.size (.slice Ax nx cx) xs := by rw [HNX.out]; exact (HX.out.below HB3.out).touch hA3 hT4;
              have hrp := rput_any w4 _ pid nx cx c1' Ax A1 xs o hxr4 HNX.out (by omega) hp64 hi4 HOKO.out;
              have hb4 : Below w.heap.size w w4 := (HB.out.trans (HB3.out.mono HB.out.size)).trans (hT4.below (Nat.le_trans HB.out.size HB3.out.size) fun j hj => hA3.low hj);
              unfold ndV at hrp;
              have HRP := Lib.hid hrp;
              have HA4 := Lib.hid hA4;
              have HB4 := Lib.hid hb4;
              clear hA4 hT4 hO4 hA3 hx4 hr4 hi4 hxr4 hrp hb4))
            | (go_at_call 35; go_loud (
              (with_reducible refine (HRP.out).mono ?_);
              rintro e w5 ⟨v5, rfl, hx5, hb5⟩;
              have HX5 := Lib.hid (hx5.lower HB4.out.size);
              have HB5 := Lib.hid hb5;
              clear hx5 hb5)))
          have hput2 : layL (rs.take (k + 1)) = putL' (layL (rs.take k)) pid o := by rw [HNXT.out]; unfold layS; rw [if_pos ⟨h30, hz⟩, HO.out]
          have hxr : Rise xs := xNs_rise (by rw [HNS.out]; exact HFW.out.rise)
          have hx5 := HX5.out
          rw [rputL_put hxr] at hx5
          refine ⟨LayI.mk (k + 1) _ F4 vs4 (by omega) hx5 (by rw [xNs_put, HNS.out, hput2]) ?_ ?_ (HB4.out.trans (HB5.out.mono HB4.out.size)), ?measure⟩
          case measure =>
            simp [intOf]
            omega
          · rw [hput2]
            exact (HA4.out.below HB5.out).more (by have := HFW.out.old pid; have := HKO.out; omega)
          · rw [hput2, HO.out]
            exact (HFW.out.put pid pn).more (by omega)
      · have h30I : ¬ (k : Int) < 30 := by omega
        go_wp2_with fail
        have hsk : layL (rs.take (k + 1)) = layL (rs.take k) := by rw [HNXT.out]; unfold layS; rw [if_neg (by first | (simp; done) | (simp; omega))]
        refine ⟨LayI.mk (k + 1) xs F1 vs1 (by omega) (by rw [HNX.out]; exact HX.out.below ((Below.refl _ _).alloc (Nat.le_refl _) _)) (by rw [hsk]; exact HNS.out) (by rw [hsk]; exact (HA.out.below ((Below.refl _ _).alloc (Nat.le_refl _) _)).more (by omega)) (by rw [hsk]; exact HFW.out.more (by omega)) (HB.out.alloc HB.out.size _), ?measure⟩
        case measure =>
          simp [intOf]
          omega
    · have hltI : ¬ (k : Int) < (N : Int) := by omega
      have hkN : k = N := by omega
      go_wp2_with fail
      go_ret2
      have htk : rs.take k = rs := List.take_of_length_le (by rw [← HRI.out.len]; omega)
      refine ⟨w.heap.size, ga, gm, gp, _, xs, F1, vs1, rfl, Nat.le_refl _, by rw [HNX.out]; exact HX.out, ?_, ?_, ?_, HB.out⟩
      · rw [HNS.out, htk]
      · have h1 := HA.out
        rw [htk] at h1
        exact h1.more (by omega)
      · have h1 := HFW.out
        rw [htk] at h1
        exact h1.more (by omega)
end Go.Proofs.Ytdphpjlhkamadaa
