/- Contract: a node is written. -/
import Derived.Test.YtdphpjlhkamadaaZ8
import Derived.Test.YtdphpjlhkamadaaARPut
import Derived.Test.YtdphpjlhkamadaaZ27
namespace Go.Proofs.Ytdphpjlhkamadaa
open Go.RowKit
set_option linter.unusedSimpArgs false
set_option linter.unusedVariables false
set_option maxRecDepth 100000
attribute [local go_sem] Oper.semAt_some undef
/-- A node's bytes, its kids aside; its bytes; the bytes of nodes. -/
def headB (n : Nd) : List Nat := [n.kind] ++ (num n.name.size ++ str n.name) ++ num (zig n.num) ++ [n.typ] ++ num n.ref ++ num n.kids.length
def nodeB (n : Nd) : List Nat := headB n ++ n.kids.flatMap num
def nodesB : Nat → List (Nat × Nd) → List Nat
  | _, [] => []
  | b, p :: r => num (p.1 - b) ++ nodeB p.2 ++ nodesB p.1 r
def arenaB (ns : List (Nat × Nd)) : List Nat := num ns.length ++ nodesB 0 ns
theorem Wrote.and {W w1 w2 : World} {base g : Nat} {v0 v : Value} {l' : List Nat} (hC : Chg W w1 g v0.ownBlock) (hG : Goes W v0.ownBlock v.ownBlock) (h : Wrote w1 base g v l' w2) : Wrote W base g v0 l' w2 := by
  obtain ⟨v2, hw, hC2, hG2⟩ := h
  exact ⟨v2, hw, hC.trans hG hC2, hG.trans hC.size hG2⟩
theorem Wrote.drew {W w1 : World} {base g : Nat} {v0 : Value} {l : List Nat} (h : Wrote W base g v0 l w1) : Wrote W base g v0 l w1.drew := by
  obtain ⟨v, hw, hC, hG⟩ := h
  exact ⟨v, hw.below (ride_drew (Below.refl _ _)), hC.trans hG (Chg.of_below (ride_drew (Below.refl _ _)) g v.ownBlock), hG⟩
/-- A block of another kind stays while a Writer writes. -/
theorem Wrote.other {W w1 : World} {base g j : Nat} {v0 : Value} {l l0 : List Nat} {cs : Array Value} {t : TypeId} {z : Nat × Nat} (h0 : Wtr W base g v0 l0) (h : Wrote W base g v0 l w1) (hj : W.heap[j]? = some (.cells cs t z)) (h1 : t ≠ 85) (h2 : t ≠ 5) : w1.heap[j]? = some (.cells cs t z) := by
  obtain ⟨v, _, hC, _⟩ := h
  refine hC.heap hj (fun e => ?_) fun e => ?_
  · rw [e, h0.st] at hj
    injection hj with hj
    injection hj with _ e2 _
    exact h1 e2.symm
  · rcases h0.own.2 with ⟨e2, _⟩ | ⟨b, cap, cur, e2, _, hg, _⟩
    · rw [e2] at e; cases e
    · rw [e2] at e
      have e3 : j = b := Option.some.inj e
      rw [e3, hg] at hj
      injection hj with hj
      injection hj with _ e4 _
      exact h2 e4.symm
theorem IdSl.wrote {W w1 : World} {base g : Nat} {v0 u : Value} {l l0 ks : List Nat} (h : IdSl W W.heap.size u ks) (h0 : Wtr W base g v0 l0) (hw : Wrote W base g v0 l w1) : IdSl w1 w1.heap.size u ks :=
  (h.keep fun j cs z _ hj => (hw.other h0 hj (by decide) (by decide)).trans hj.symm).up (by obtain ⟨v, _, hC, _⟩ := hw; exact hC.size)
def WrI (W : World) (base g : Nat) (v : Value) (l : List Nat) (n : Nd) (kl : Nat) (i : Value) (wr : World) : Prop := ∃ k : Nat, k ≤ kl ∧ i = .int .i64 (k : Int) ∧ Wrote W base g v (l ++ headB n ++ (n.kids.take k).flatMap num) wr
theorem WrI.mk {W wr : World} {base g kl : Nat} {v : Value} {l : List Nat} {n : Nd} (k : Nat) (hk : k ≤ kl) (h : Wrote W base g v (l ++ headB n ++ (n.kids.take k).flatMap num) wr) : WrI W base g v l n kl (.int .i64 (k : Int)) wr := ⟨k, hk, rfl, h⟩
theorem flat_take {ks : List Nat} {k : Nat} : ((ks.take k).flatMap num).length ≤ (ks.flatMap num).length := by
  conv => rhs; rw [← List.take_append_drop k ks, List.flatMap_append, List.length_append]
  omega
set_option maxHeartbeats 8000000 in
theorem write_any (w : World) (base g : Nat) (v : Value) (l : List Nat) (n : Nd) (A : Option Addr) (c : Nat) (hw : Wtr w base g v l) (hs : IdSl w w.heap.size (.slice A n.kids.length c) n.kids) (hok : NdOk n) (hl : (l ++ nodeB n).length ≤ 1048576) (hbase : base ≤ w.heap.size) :
    Calls Try.prog 45 #[.pointer (some ⟨g, 0, none⟩), ndV n (.slice A n.kids.length c)] w (fun e w' => e = .returned (.tuple #[]) ∧ Wrote w base g v (l ++ nodeB n) w') := by
  have hlens : l.length + 1 + (num n.name.size).length + (str n.name).length + (num (zig n.num)).length + 1 + (num n.ref).length + (num n.kids.length).length + (n.kids.flatMap num).length ≤ 1048576 := by
    unfold nodeB headB at hl
    simp only [List.length_append, List.length_cons, List.length_nil] at hl
    omega
  obtain ⟨kl, hkl⟩ : ∃ kl, kl = n.kids.length := ⟨_, rfl⟩
  have hklb : kl ≤ 1000000000 := by rw [hkl]; exact hs.long
  unfold ndV
  rw [← hkl] at hs ⊢
  have hb0 : Below w.heap.size w (w.alloc (.cells #[.int .u8 (n.kind : Int), .string n.name, .int .i64 n.num, .int .u8 (n.typ : Int), .int .u64 (n.ref : Int), .slice A kl c] 33)) := (Below.refl _ _).alloc (Nat.le_refl _) _
  obtain ⟨w0, hw0⟩ : ∃ w0, w0 = w.alloc (.cells #[.int .u8 (n.kind : Int), .string n.name, .int .i64 n.num, .int .u8 (n.typ : Int), .int .u64 (n.ref : Int), .slice A kl c] 33) := ⟨_, rfl⟩
  rw [← hw0] at hb0
  have hx0 : w0.heap[w.heap.size]? = some (.cells #[.int .u8 (n.kind : Int), .string n.name, .int .i64 n.num, .int .u8 (n.typ : Int), .int .u64 (n.ref : Int), .slice A kl c] 33 (0, 0)) := by rw [hw0]; exact Go.heap_alloc_new _ _
  have HW0 := Lib.hid (hw.below hb0)
  have HC0 := Lib.hid (Chg.of_below hb0 g v.ownBlock)
  have HX0 := Lib.hid hx0
  have HS0 := Lib.hid ((hs.below hb0).up hb0.size)
  have HOK := Lib.hid hok
  have HL := Lib.hid hlens
  have HKL := Lib.hid hkl
  have HBS := Lib.hid (Nat.le_trans hbase hb0.size)
  have HEW := Lib.hid hw0
  clear hw hs hok hl hb0 hx0 hlens hkl hw0 hbase
  go_enter Try.func45, Try.ntmps45
  go_wp2_with fail
  rw [← HEW.out]
  refine wp_region_noPanic ?_
  refine wp_region_held_drew (S := fun x => x.heap[w.heap.size]? = some (.cells #[.int .u8 (n.kind : Int), .string n.name, .int .i64 n.num, .int .u8 (n.typ : Int), .int .u64 (n.ref : Int), .slice A kl c] 33 (0, 0))) (by kernel_rfl) HX0.out (fun hHeld => ?_)
  refine take_at (i := 0) (v := ?_) (some 6) rfl rfl (by kernel_rfl) (by kernel_rfl) (by kernel_rfl) (fun _ _ _ h => h) (Or.inl ⟨by rfl, ?_⟩) (by assumption) ?_
  rotate_left
  · intro w hSw
    obtain ⟨z0, z1, z2, z3, z4, z5, _⟩ := box_cells hSw
    first | (go_simp; done) | (go_simp; with_reducible rfl)
  try simp only [Act.put, List.setIfInBounds_toArray, List.set_cons_zero, List.set_cons_succ]
  refine take_at (i := 1) (v := ?_) (some 7) rfl rfl (by kernel_rfl) (by kernel_rfl) (by kernel_rfl) (fun _ _ _ h => h) (Or.inl ⟨by rfl, ?_⟩) (by assumption) ?_
  rotate_left
  · intro w hSw
    obtain ⟨z0, z1, z2, z3, z4, z5, _⟩ := box_cells hSw
    first | (go_simp; done) | (go_simp; with_reducible rfl)
  try simp only [Act.put, List.setIfInBounds_toArray, List.set_cons_zero, List.set_cons_succ]
  refine take_at (i := 2) (v := ?_) (some 8) rfl rfl (by kernel_rfl) (by kernel_rfl) (by kernel_rfl) (fun _ _ _ h => h) (Or.inl ⟨by rfl, ?_⟩) (by assumption) ?_
  rotate_left
  · intro w hSw
    obtain ⟨z0, z1, z2, z3, z4, z5, _⟩ := box_cells hSw
    first | (go_simp; done) | (go_simp; with_reducible rfl)
  try simp only [Act.put, List.setIfInBounds_toArray, List.set_cons_zero, List.set_cons_succ]
  refine take_at (i := 4) (v := ?_) (some 10) rfl rfl (by kernel_rfl) (by kernel_rfl) (by kernel_rfl) (fun _ _ _ h => h) (Or.inl ⟨by rfl, ?_⟩) (by assumption) ?_
  rotate_left
  · intro w hSw
    obtain ⟨z0, z1, z2, z3, z4, z5, _⟩ := box_cells hSw
    first | (go_simp; done) | (go_simp; with_reducible rfl)
  try simp only [Act.put, List.setIfInBounds_toArray, List.set_cons_zero, List.set_cons_succ]
  refine take_at (i := 5) (v := ?_) (some 11) rfl rfl (by kernel_rfl) (by kernel_rfl) (by kernel_rfl) (fun _ _ _ h => h) (Or.inl ⟨by rfl, ?_⟩) (by assumption) ?_
  rotate_left
  · intro w hSw
    obtain ⟨z0, z1, z2, z3, z4, z5, _⟩ := box_cells hSw
    first | (go_simp; done) | (go_simp; with_reducible rfl)
  try simp only [Act.put, List.setIfInBounds_toArray, List.set_cons_zero, List.set_cons_succ]
  refine take_at (i := 7) (v := ?_) (some 13) rfl rfl (by kernel_rfl) (by kernel_rfl) (by kernel_rfl) (fun _ _ _ h => h) (Or.inl ⟨by rfl, ?_⟩) (by assumption) ?_
  rotate_left
  · intro w hSw
    obtain ⟨z0, z1, z2, z3, z4, z5, _⟩ := box_cells hSw
    first | (go_simp; done) | (go_simp; with_reducible rfl)
  try simp only [Act.put, List.setIfInBounds_toArray, List.set_cons_zero, List.set_cons_succ]
  refine take_at (i := 8) (v := ?_) (some 14) rfl rfl (by kernel_rfl) (by kernel_rfl) (by kernel_rfl) (fun _ _ _ h => h) (Or.inl ⟨by rfl, ?_⟩) (by assumption) ?_
  rotate_left
  · intro w hSw
    obtain ⟨z0, z1, z2, z3, z4, z5, _⟩ := box_cells hSw
    first | (go_simp; done) | (go_simp; with_reducible rfl)
  try simp only [Act.put, List.setIfInBounds_toArray, List.set_cons_zero, List.set_cons_succ]
  refine take_at (i := 10) (v := ?_) (some 16) rfl rfl (by kernel_rfl) (by kernel_rfl) (by kernel_rfl) (fun _ _ _ h => h) (Or.inl ⟨by rfl, ?_⟩) (by assumption) ?_
  rotate_left
  · intro w hSw
    obtain ⟨z0, z1, z2, z3, z4, z5, _⟩ := box_cells hSw
    first | (go_simp; done) | (go_simp; with_reducible rfl)
  try simp only [Act.put, List.setIfInBounds_toArray, List.set_cons_zero, List.set_cons_succ]
  refine take_at (i := 11) (v := ?_) (some 17) rfl rfl (by kernel_rfl) (by kernel_rfl) (by kernel_rfl) (fun _ _ _ h => h) (Or.inl ⟨by rfl, ?_⟩) (by assumption) ?_
  rotate_left
  · intro w hSw
    obtain ⟨z0, z1, z2, z3, z4, z5, _⟩ := box_cells hSw
    first | (go_simp; done) | (go_simp; with_reducible rfl)
  try simp only [Act.put, List.setIfInBounds_toArray, List.set_cons_zero, List.set_cons_succ]
  refine take_at (i := 13) (v := ?_) (some 19) rfl rfl (by kernel_rfl) (by kernel_rfl) (by kernel_rfl) (fun _ _ _ h => h) (Or.inl ⟨by rfl, ?_⟩) (by assumption) ?_
  rotate_left
  · intro w hSw
    obtain ⟨z0, z1, z2, z3, z4, z5, _⟩ := box_cells hSw
    first | (go_simp; done) | (go_simp; with_reducible rfl)
  try simp only [Act.put, List.setIfInBounds_toArray, List.set_cons_zero, List.set_cons_succ]
  refine take_at (i := 14) (v := ?_) (some 20) rfl rfl (by kernel_rfl) (by kernel_rfl) (by kernel_rfl) (fun _ _ _ h => h) (Or.inl ⟨by rfl, ?_⟩) (by assumption) ?_
  rotate_left
  · intro w hSw
    obtain ⟨z0, z1, z2, z3, z4, z5, _⟩ := box_cells hSw
    first | (go_simp; done) | (go_simp; with_reducible rfl)
  try simp only [Act.put, List.setIfInBounds_toArray, List.set_cons_zero, List.set_cons_succ]
  refine wpAnyH_ready (rs := [3]) (by kernel_rfl) (by simp) ?_
  refine AllReadyH.cons rfl (fun K hK => ?_) AllReadyH.nil
  go_simp
  refine (wbyte_any _ base g n.kind v _ HOK.out.kind (HW0.out.below (ride_drew (Below.refl _ _))) (by have := HL.out; (try simp only [List.length_append, List.length_cons, List.length_nil]); omega) HBS.out).mono ?_
  rintro e w1 ⟨rfl, hwr⟩
  have hwr0 : Wrote w0 base g v _ w1 := Wrote.and (Chg.of_below (ride_drew (Below.refl _ _)) g v.ownBlock) (Goes.refl _ _) hwr
  have hbx := hwr0.other HW0.out HX0.out (by decide) (by decide)
  have HI1 := Lib.hid (HS0.out.wrote HW0.out hwr0)
  obtain ⟨v1, hwk, hck, hgk⟩ := hwr0
  have HW1 := Lib.hid hwk
  have HC1 := Lib.hid hck
  have HG1 := Lib.hid hgk
  clear hwk hck hgk hwr
  refine hK.out _ _ ?_ (fun hHeld2 => ?_)
  · exact hbx
  clear hK K hHeld
  have hHeld := hHeld2
  clear hHeld2
  try simp only [Act.put, List.setIfInBounds_toArray, List.set_cons_zero, List.set_cons_succ]
  refine wpAnyH_ready (rs := [6]) (by kernel_rfl) (by simp) ?_
  refine AllReadyH.cons rfl (fun K hK => ?_) AllReadyH.nil
  go_simp
  refine (wtext_any _ base g n.name v1 _ (by have := HL.out; rw [str_length] at this; omega) HW1.out (by have := HL.out; (try simp only [List.length_append, List.length_cons, List.length_nil]); omega) (Nat.le_trans HBS.out HC1.out.size)).mono ?_
  rintro e w2 ⟨rfl, hwr⟩
  have hwr0 : Wrote w0 base g v _ w2 := Wrote.and HC1.out HG1.out hwr
  have hbx := hwr0.other HW0.out HX0.out (by decide) (by decide)
  have HI2 := Lib.hid (HS0.out.wrote HW0.out hwr0)
  obtain ⟨v2, hwk, hck, hgk⟩ := hwr0
  have HW2 := Lib.hid hwk
  have HC2 := Lib.hid hck
  have HG2 := Lib.hid hgk
  clear hwk hck hgk hwr
  refine hK.out _ _ ?_ (fun hHeld2 => ?_)
  · exact hbx
  clear hK K hHeld
  have hHeld := hHeld2
  clear hHeld2
  try simp only [Act.put, List.setIfInBounds_toArray, List.set_cons_zero, List.set_cons_succ]
  refine wpAnyH_ready (rs := [9]) (by kernel_rfl) (by simp) ?_
  refine AllReadyH.cons rfl (fun K hK => ?_) AllReadyH.nil
  go_simp
  refine (wint_any _ base g n.num v2 _ HOK.out.num.1 (by have := HOK.out.num.2; omega) HW2.out (by have := HL.out; (try simp only [List.length_append, List.length_cons, List.length_nil]); omega) (Nat.le_trans HBS.out HC2.out.size)).mono ?_
  rintro e w3 ⟨rfl, hwr⟩
  have hwr0 : Wrote w0 base g v _ w3 := Wrote.and HC2.out HG2.out hwr
  have hbx := hwr0.other HW0.out HX0.out (by decide) (by decide)
  have HI3 := Lib.hid (HS0.out.wrote HW0.out hwr0)
  obtain ⟨v3, hwk, hck, hgk⟩ := hwr0
  have HW3 := Lib.hid hwk
  have HC3 := Lib.hid hck
  have HG3 := Lib.hid hgk
  clear hwk hck hgk hwr
  refine hK.out _ _ ?_ (fun hHeld2 => ?_)
  · exact hbx
  clear hK K hHeld
  have hHeld := hHeld2
  clear hHeld2
  try simp only [Act.put, List.setIfInBounds_toArray, List.set_cons_zero, List.set_cons_succ]
  refine wpAnyH_ready (rs := [12]) (by kernel_rfl) (by simp) ?_
  refine AllReadyH.cons rfl (fun K hK => ?_) AllReadyH.nil
  go_simp
  refine (wbyte_any _ base g n.typ v3 _ HOK.out.typ HW3.out (by have := HL.out; (try simp only [List.length_append, List.length_cons, List.length_nil]); omega) (Nat.le_trans HBS.out HC3.out.size)).mono ?_
  rintro e w4 ⟨rfl, hwr⟩
  have hwr0 : Wrote w0 base g v _ w4 := Wrote.and HC3.out HG3.out hwr
  have hbx := hwr0.other HW0.out HX0.out (by decide) (by decide)
  have HI4 := Lib.hid (HS0.out.wrote HW0.out hwr0)
  obtain ⟨v4, hwk, hck, hgk⟩ := hwr0
  have HW4 := Lib.hid hwk
  have HC4 := Lib.hid hck
  have HG4 := Lib.hid hgk
  clear hwk hck hgk hwr
  refine hK.out _ _ ?_ (fun hHeld2 => ?_)
  · exact hbx
  clear hK K hHeld
  have hHeld := hHeld2
  clear hHeld2
  try simp only [Act.put, List.setIfInBounds_toArray, List.set_cons_zero, List.set_cons_succ]
  refine wpAnyH_ready (rs := [15]) (by kernel_rfl) (by simp) ?_
  refine AllReadyH.cons rfl (fun K hK => ?_) AllReadyH.nil
  go_simp
  refine (wnum_any _ base g n.ref v4 _ HOK.out.ref HW4.out (by have := HL.out; (try simp only [List.length_append, List.length_cons, List.length_nil]); omega) (Nat.le_trans HBS.out HC4.out.size)).mono ?_
  rintro e w5 ⟨rfl, hwr⟩
  have hwr0 : Wrote w0 base g v _ w5 := Wrote.and HC4.out HG4.out hwr
  have hbx := hwr0.other HW0.out HX0.out (by decide) (by decide)
  have HI5 := Lib.hid (HS0.out.wrote HW0.out hwr0)
  obtain ⟨v5, hwk, hck, hgk⟩ := hwr0
  have HW5 := Lib.hid hwk
  have HC5 := Lib.hid hck
  have HG5 := Lib.hid hgk
  clear hwk hck hgk hwr
  refine hK.out _ _ ?_ (fun hHeld2 => ?_)
  · exact hbx
  clear hK K hHeld
  have hHeld := hHeld2
  clear hHeld2
  try simp only [Act.put, List.setIfInBounds_toArray, List.set_cons_zero, List.set_cons_succ]
  refine wpAnyH_done (by kernel_rfl) ?_ _
  refine NoPanic.normal ?_
  obtain ⟨_, _, _, _, _, b5, _⟩ := box_cells hHeld
  have HBX := Lib.hid hHeld
  clear hHeld
  have hku : (kl : Int) < 18446744073709551616 := by omega
  go_wp2_with (go_at_call 44; (with_reducible refine (wnum_any _ base g kl v5 _ (by omega) HW5.out (by have := HL.out; simp only [List.length_append, List.length_cons, List.length_nil]; omega) (Nat.le_trans HBS.out HC5.out.size)).mono ?_); rintro e w6 ⟨rfl, hwr⟩; go_loud (
      have hwr0 : Wrote w0 base g v _ w6 := Wrote.and HC5.out HG5.out hwr;
      have hbx := hwr0.other HW0.out HX0.out (by decide) (by decide);
      obtain ⟨_, _, _, _, _, d5, _⟩ := box_cells hbx;
      have HI6 := Lib.hid (HS0.out.wrote HW0.out hwr0);
      have HWR6 := Lib.hid hwr0;
      clear hwr hwr0 hbx b5))
  have hst : WrI w0 base g v l n kl (.int .i64 ((0 : Nat) : Int)) w6 := WrI.mk 0 (Nat.zero_le _) (by have h1 := HWR6.out; rw [HKL.out] at h1; unfold headB; simpa [List.append_assoc] using h1)
  have HST := Lib.hid hst
  clear hst
  go_loopw [31] (fun i wr => WrI w0 base g v l n kl i wr) (fun i _ => kl - (intOf i).toNat)
  case atStart => exact HST.out
  case round =>
    obtain ⟨k, hk, rfl, hwk⟩ := hrel
    have HWK := Lib.hid hwk
    have HIK := Lib.hid (HS0.out.wrote HW0.out hwk)
    clear hwk
    by_cases hlt : k < kl
    · have hltI : (k : Int) < (kl : Int) := by omega
      obtain ⟨y, hy⟩ : ∃ y, n.kids[k]? = some y := by rw [HKL.out] at hlt; exact ⟨_, List.getElem?_eq_getElem hlt⟩
      obtain ⟨ad, hA, _, hcell⟩ := HIK.out.at_ hy
      have hyb := HIK.out.small y (List.mem_of_getElem? hy)
      have hnext : (n.kids.take (k + 1)).flatMap num = (n.kids.take k).flatMap num ++ num y := by rw [List.take_add_one, hy, List.flatMap_append]; simp
      have hlen1 : ((n.kids.take (k + 1)).flatMap num).length ≤ (n.kids.flatMap num).length := flat_take
      rw [hnext, List.length_append] at hlen1
      have HNX := Lib.hid hnext
      have HY := Lib.hid hy
      obtain ⟨vk, hwv, hcv, hgv⟩ := HWK.out
      have hnum := wnum_any wr base g y vk _ hyb hwv (by have := HL.out; unfold headB; simp only [List.length_append, List.length_cons, List.length_nil]; rw [← HKL.out]; rw [← HKL.out] at this; omega) (Nat.le_trans HBS.out hcv.size)
      have HNUM := Lib.hid hnum
      have HCV := Lib.hid hcv
      have HGV := Lib.hid hgv
      clear hy hnext hwv hcv hgv hnum
      subst hA
      go_wp2_with (go_at_call 44; (with_reducible refine (HNUM.out).mono ?_); rintro e w7 ⟨rfl, hwr⟩; go_loud (
        have HWR7 := Lib.hid (Wrote.and HCV.out HGV.out hwr);
        clear hwr))
      have hfin := WrI.mk (W := w0) (base := base) (g := g) (v := v) (l := l) (n := n) (kl := kl) (k + 1) (by omega) (by rw [HNX.out, ← List.append_assoc]; exact HWR7.out)
      first
        | (go_roundw; (case rel => exact hfin); (case measure => simp [intOf]; omega))
        | (refine ⟨⟨_, _, _, _, _, _, _, hfin, rfl⟩, ?measure⟩; (case measure => simp [intOf]; omega))
        | (refine ⟨hfin, ?measure⟩; (case measure => simp [intOf]; omega))
    · have hltI : ¬ (k : Int) < (kl : Int) := by omega
      have hkl2 : k = kl := by omega
      go_wp2_with fail
      refine bodyPost_end (results_none rfl _ _ _) rfl ?_
      refine ⟨rfl, Wrote.and HC0.out (Goes.refl _ _) ?_⟩
      have h1 := HWK.out
      rw [hkl2, HKL.out, List.take_length, List.append_assoc] at h1
      exact h1
end Go.Proofs.Ytdphpjlhkamadaa
