/- GEnd, GLet, GHideM, GHide, GTake: joined by program (tools/merge.py). -/
import Derived.Test.YtecbaceinifjiaaGreatDoorZ21
namespace Go.Proofs.YtecbaceinifjiaaGreatDoor
open Go.RowKit
set_option linter.unusedSimpArgs false
set_option linter.unusedVariables false
set_option maxRecDepth 100000
attribute [local go_sem] Oper.semAt_some undef
set_option maxHeartbeats 4000000 in
theorem ending_any (w : World) (base : Nat) (M : GM) (s : PS) (h : GR w base M s) (u : Nat) (hu0 : 0 < u) (hu : u ≤ s.nodes.length) (hl : Live M) :
    Calls Tryz.prog 75 #[.pointer (some ⟨M.gp, 0, none⟩), .int .u64 (u : Int)] w fun e w' => e = .returned (.tuple #[]) ∧ GStep w base M (endS u s) w' := by
  have HE := Lib.hid (expr_any w base M s h u hu0 hu hl)
  clear h hu0 hu hl
  go_enter Tryz.func75, Tryz.ntmps75
  go_wp2_with (first
    | (go_at_call 86; (with_reducible refine (HE.out).mono ?_); rintro e w1 ⟨rfl, M1, hg1, hgp1, hT1, hO1, hl1⟩; go_loud (
        have hwa := want_any w1 base M1 _ hg1 ⟨#[59]⟩;
        rw [show str ⟨#[59]⟩ = c_semi from rfl, hgp1] at hwa;
        have HWA := Lib.hid hwa;
        have HGP1 := Lib.hid hgp1;
        have HT1 := Lib.hid hT1;
        have HO1 := Lib.hid hO1;
        have HL1 := Lib.hid hl1;
        clear hwa hg1 hgp1 hT1 hO1 hl1))
    | (go_at_call 45; (with_reducible refine (HWA.out).mono ?_); rintro e w2 ⟨rfl, hw2⟩; go_loud (
        have HW2 := Lib.hid hw2;
        clear hw2)))
  go_end0
  exact ⟨rfl, GStep.trans HGP1.out HT1.out HO1.out HL1.out HW2.out.step⟩
end Go.Proofs.YtecbaceinifjiaaGreatDoor
namespace Go.Proofs.YtecbaceinifjiaaGreatDoor
open Go.RowKit
set_option linter.unusedSimpArgs false
set_option linter.unusedVariables false
set_option maxRecDepth 100000
attribute [local go_sem] Oper.semAt_some undef
theorem ok_type (s : PS) : Ok s (typeS s) 0 := by
  unfold typeS
  split
  · exact ok_next _
  · split
    · exact ok_next _
    · exact (ok_next _).trans (ok_fail _)
theorem ok_end (u : Nat) (s : PS) : Ok s (endS u s) 0 := by
  unfold endS exprT
  exact (ok_expr _ _ _).trans (ok_want _ _)
theorem typeT_le (s : PS) : typeT s ≤ 2 := by unfold typeT; split; omega; split <;> omega
theorem ba_sizeL {l : List Nat} (h : ∀ b ∈ l, b < 256) : (ba l).size = l.length := by rw [← str_length, str_ba h]
set_option maxHeartbeats 8000000 in
theorem let_any (w : World) (base : Nat) (M : GM) (s : PS) (h : GR w base M s) (u : Nat) (hu : u ≤ s.nodes.length) (hl : Live M) (hs : s.left.length * 16 + s.nodes.length + s.cnt + 3 ≤ 10000000) :
    Calls Tryz.prog 97 #[.pointer (some ⟨M.gp, 0, none⟩), .int .u64 (u : Int)] w fun e w' => e = .returned (.tuple #[]) ∧ GStep w base M (letS u s) w' := by
  have hnm := name_any w base M s h
  have hgn := nameT_good h.goodN
  obtain ⟨n, hn⟩ : ∃ n, n = nameT s := ⟨_, rfl⟩
  rw [← hn] at hnm hgn
  obtain ⟨s1, hs1⟩ : ∃ s1, s1 = nameS s := ⟨_, rfl⟩
  rw [← hs1] at hnm
  obtain ⟨T, hT⟩ : ∃ T, T = typeT s1 := ⟨_, rfl⟩
  have hTb : T ≤ 2 := by rw [hT]; exact typeT_le _
  obtain ⟨s2, hs2⟩ : ∃ s2, s2 = typeS s1 := ⟨_, rfl⟩
  obtain ⟨id, hid⟩ : ∃ id, id = growId s2 := ⟨_, rfl⟩
  have hok2 : Ok s s2 0 := by rw [hs2, hs1]; exact (ok_name s).trans (ok_type _)
  obtain ⟨s3, hs3⟩ : ∃ s3, s3 = growS u { nd0 6 with name := ba n, typ := T } s2 := ⟨_, rfl⟩
  obtain ⟨s4, hs4⟩ : ∃ s4, s4 = wantS c_eq s3 := ⟨_, rfl⟩
  obtain ⟨s5, hs5⟩ : ∃ s5, s5 = endS id s4 := ⟨_, rfl⟩
  have hfin : letS u s = showS n id s5 := by unfold letS; rw [hs5, hs4, hs3, hid, hT, hs2, hs1, hn]
  have hg3 := grow_facts u { nd0 6 with name := ba n, typ := T } s2
  rw [← hs3] at hg3
  have hok4 : Ok s3 s4 0 := by rw [hs4]; exact ok_want _ _
  have hok5 : Ok s4 s5 0 := by rw [hs5]; exact ok_end _ _
  have hid4 : id ≤ s4.nodes.length := by have a1 := hok4.nodes; rw [hg3.2.1] at a1; rw [hid]; exact a1
  have hid0 : 0 < id := by rw [hid]; exact Nat.succ_pos _
  have hsum2 : s2.left.length * 16 + (s2.nodes.length + 1) + s2.cnt ≤ 10000000 := by have a1 := hok2.sum; omega
  have hsum5 : s5.left.length * 16 + s5.nodes.length + (s5.cnt + 2) ≤ 10000000 := by
    have a1 := hok2.sum
    have a2 := hok4.sum
    have a3 := hok5.sum
    rw [hg3.1, hg3.2.1, hg3.2.2.1] at a2
    omega
  have hidb : id < 18446744073709551616 := by rw [hid]; unfold growId; omega
  have hnd : NdOk { nd0 6 with name := ba n, typ := T } := ⟨(okNd 6 (by omega)).kind, by show (ba n).size ≤ _; rw [ba_sizeL hgn.1]; have := hgn.2; omega, (okNd 6 (by omega)).num, by show T < 256; omega, (okNd 6 (by omega)).ref⟩
  have hu2 : u ≤ s2.nodes.length := Nat.le_trans hu hok2.nodes
  rw [hfin]
  have HNM := Lib.hid hnm
  have HGN := Lib.hid hgn
  have HS2 := Lib.hid hs2
  have HT := Lib.hid hT
  have HID := Lib.hid hid
  have HS3 := Lib.hid hs3
  have HS4 := Lib.hid hs4
  have HS5 := Lib.hid hs5
  have HID4 := Lib.hid hid4
  have HID0 := Lib.hid hid0
  have HSUM2 := Lib.hid hsum2
  have HSUM5 := Lib.hid hsum5
  have HIDB := Lib.hid hidb
  have HND := Lib.hid hnd
  have HU2 := Lib.hid hu2
  have HL := Lib.hid hl
  clear h hnm hgn hn hs1 hT hTb hs2 hid hok2 hs3 hs4 hs5 hfin hg3 hok4 hok5 hid4 hid0 hsum2 hsum5 hidb hnd hu2 hu hl hs
  go_enter Tryz.func97, Tryz.ntmps97
  go_wp2_with (first
    | (go_at_call 46; (with_reducible refine (HNM.out).mono ?_); rintro e w1 ⟨rfl, l1, hg1, hT1⟩; go_loud (
        have hty := type_any w1 base _ _ hg1;
        dsimp only at hty hT1;
        rw [← HT.out, ← HS2.out] at hty;
        have HTY := Lib.hid hty;
        have HT1 := Lib.hid hT1;
        clear hty hg1 hT1))
    | (go_at_call 73; (with_reducible refine (HTY.out).mono ?_); rintro e w2 ⟨rfl, l2, hg2, hT2⟩; go_loud (
        have hgr := grow_any w2 base _ _ hg2 u { nd0 6 with name := ba n, typ := T } HU2.out HND.out rfl HSUM2.out;
        unfold ndV nd0 at hgr;
        dsimp only at hgr hT2;
        rw [← HID.out, show ((6 : Nat) : Int) = 6 from rfl, show ((0 : Nat) : Int) = 0 from rfl] at hgr;
        have HGR := Lib.hid hgr;
        have HT2 := Lib.hid hT2;
        clear hgr hg2 hT2))
    | (go_at_call 30; (with_reducible refine (HGR.out).mono ?_); rintro e w3 ⟨rfl, M3, hg3, hgp3, hT3, hO3, hl3⟩; go_loud (
        have hg3' : GR w3 base M3 s3 := (by rw [HS3.out]; exact hg3);
        have hwa := want_any w3 base M3 s3 hg3' ⟨#[61]⟩;
        dsimp only at hgp3;
        rw [show str ⟨#[61]⟩ = c_eq from rfl, ← HS4.out, hgp3] at hwa;
        have HWA := Lib.hid hwa;
        have HGP3 := Lib.hid hgp3;
        have HT3 := Lib.hid hT3;
        have HO3 := Lib.hid hO3;
        have HL3 := Lib.hid (hl3 HL.out);
        clear hwa hg3 hg3' hgp3 hT3 hO3 hl3))
    | (go_at_call 45; (with_reducible refine (HWA.out).mono ?_); rintro e w4 ⟨rfl, l4, hg4, hT4⟩; go_loud (
        obtain ⟨M4, hM4⟩ : ∃ M4 : GM, M4 = { M3 with left := l4 } := ⟨_, rfl⟩;
        rw [← hM4] at hg4;
        have hgp4 : M4.gp = M.gp := (by rw [hM4]; exact HGP3.out);
        have hen := ending_any w4 base M4 s4 hg4 id HID0.out HID4.out (by rw [hM4]; exact HL3.out);
        rw [hgp4, ← HS5.out] at hen;
        have HEN := Lib.hid hen;
        have HT4 := Lib.hid hT4;
        have HM4 := Lib.hid hM4;
        have HGP4 := Lib.hid hgp4;
        have HL4 : Hid (Live M4) := Lib.hid (by rw [hM4]; exact HL3.out);
        clear hen hg4 hT4 hM4 hgp4))
    | (go_at_call 75; (with_reducible refine (HEN.out).mono ?_); rintro e w5 ⟨rfl, M5, hg5, hgp5, hT5, hO5, hl5⟩; go_loud (
        have hl5' := hl5 HL4.out;
        obtain ⟨⟨gt, hgt⟩, gv, hgv⟩ := hl5';
        have hsh := show_any w5 base M5 s5 hg5 n id gt gv HGN.out hgt hgv HSUM5.out HIDB.out;
        have hgp5' : M5.gp = M.gp := hgp5.trans HGP4.out;
        rw [hgp5'] at hsh;
        have HSH := Lib.hid hsh;
        have HGP5 := Lib.hid hgp5;
        have HT5 := Lib.hid hT5;
        have HO5 := Lib.hid hO5;
        have HL5 := Lib.hid hl5;
        clear hsh hg5 hgp5 hgp5' hT5 hO5 hl5 hgt hgv))
    | (go_at_call 84; (with_reducible refine (HSH.out).mono ?_); rintro e w6 ⟨rfl, hw6⟩; go_loud (
        have HW6 := Lib.hid hw6;
        clear hw6)))
  go_end0
  refine ⟨rfl, ?_⟩
  have k5 := GStep.trans HGP5.out HT5.out HO5.out HL5.out HW6.out
  have k4 := GStep.trans (M := M3) (M1 := M4) (by rw [HM4.out]) (HT4.out.more fun j e => .inl e) (fun j h => by rw [HM4.out] at h; exact .inl h) (fun _ => HL4.out) k5
  have k3 := GStep.trans HGP3.out HT3.out HO3.out (fun _ => HL3.out) k4
  have k2 := GStep.trans (M := { M with left := _ }) rfl (HT2.out.more fun j e => .inl e) (fun j h => .inl h) (fun h => h) k3
  exact GStep.trans (M := M) rfl (HT1.out.more fun j e => .inl e) (fun j h => .inl h) (fun h => h) k2
end Go.Proofs.YtecbaceinifjiaaGreatDoor
namespace Go.Proofs.YtecbaceinifjiaaGreatDoor
open Go.RowKit
set_option linter.unusedSimpArgs false
set_option linter.unusedVariables false
set_option maxRecDepth 100000
theorem hideV_snoc : ∀ (l : List (List Nat)) (n : List Nat) (m : List Nat → Nat), hideV (l ++ [n]) m = put1 (hideV l m) n 0
  | [], _, _ => rfl
  | x :: l, n, m => hideV_snoc l n (put1 m x 0)
theorem hideV_le {B : Nat} (hB : 0 < B) : ∀ (l : List (List Nat)) (m : List Nat → Nat), (∀ n, m n < B) → ∀ n, hideV l m n < B
  | [], _, h => h
  | x :: l, m, h => hideV_le hB l _ fun n => by
    unfold put1
    split
    · exact hB
    · exact h n
/-- A name is hidden. -/
theorem GR.lessVis {w w' : World} {base g : Nat} {M : GM} {s : PS} (h : GR w base M s) (hv : M.vv = some g) (f : List Nat → Nat) (hm : MapF 9 w' g s.cnt (fS f)) (hg : w.grownBy w' (some g)) (hvb : ∀ n, f n < 18446744073709551616) :
    GR w' base M { s with vis := f } := by
  obtain ⟨es, ck, hb⟩ : ∃ es ck, w.heap[g]? = some (.map es ck) := by
    rcases h.vis with ⟨h1, _⟩ | ⟨g', h1, h2⟩
    · rw [hv] at h1; cases h1
    · rw [hv] at h1; injection h1 with h1; rw [h1]; exact h2.obj
  have ht := h.turn hb hg
  have hn := h.n3 g hv
  exact ⟨ht.st, ht.left, ht.nodes, h.mods.turn hg (Ne.symm hn.1), h.funs.turn hg (Ne.symm hn.2), h.taken.turn hg (fun e => (h.n2 g e).2.2 hv), .inr ⟨g, hv, hm⟩, ht.shown, ht.calls, h.o1, h.o2, h.o3, h.o4, h.o5, h.n1, h.n2, h.n3, ht.hb, h.goodT, h.goodS, h.goodC, h.sum, h.sh, h.ca, h.dep, h.flt, h.vs.on ((Below.refl base w).grown hg h.hb (fun g e => by injection e with e; rw [← e]; exact h.o5 _ hv)) h.gb, h.gb, hvb⟩
theorem own_cutG {w : World} {base n size c : Nat} {t : TypeId} {A : Option Addr} {xs : List Value} (h : w.ownsRow base t size (.slice A n c) n xs) {f : Nat} (hf : f ≤ n) : w.ownsRow base t size (.slice A f c) f (xs.take (f * size)) := by
  obtain ⟨hl, h2⟩ := h
  have hfm : f * size ≤ n * size := Nat.mul_le_mul_right _ hf
  refine ⟨by rw [List.length_take]; omega, ?_⟩
  rcases h2 with ⟨hv, hn⟩ | ⟨g, cap, cur, hv, hb, hg, hc, hm, hs, ht⟩
  · injection hv with h1 h2 h3
    subst h1 h2 h3
    exact .inl ⟨by rw [show f = 0 by omega], by omega⟩
  · injection hv with h1 h2 h3
    subst h1 h3
    refine .inr ⟨g, c, cur, rfl, hb, hg, by omega, hm, hs, ?_⟩
    rw [← ht, List.take_take, Nat.min_eq_left hfm]
/-- The row of shown names is cut. -/
theorem GR.cutShown {w : World} {base k c : Nat} {A : Option Addr} {M : GM} {s : PS} (h : GR w base M s) (hsv : M.sv = .slice A s.shown.length c) (hk : k ≤ s.shown.length) :
    GR (w.setCell ⟨M.gp, 8, none⟩ (.slice A k c)) base { M with sv := .slice A k c } { s with shown := s.shown.take k } ∧ Touch w (w.setCell ⟨M.gp, 8, none⟩ (.slice A k c)) (Only M.gp) ∧
      ∀ j, OwnG { M with sv := .slice A k c } j → OwnG M j := by
  have hst := h.st
  have hsh := h.shown
  rw [hsv] at hsh
  have hcut := own_cutG hsh hk
  have hT : Touch w (w.setCell ⟨M.gp, 8, none⟩ (.slice A k c)) (Only M.gp) := (Touch.refl w _).fld 8 _
  have hm : ∀ {K : TypeId} {b n : Nat} {g : Value → Nat}, MapF K w b n g → (w.setCell ⟨M.gp, 8, none⟩ (.slice A k c)).heap[b]? = w.heap[b]? := fun hm => hT.block _ hm.lt (hm.ne_cells hst)
  refine ⟨⟨heap_setCell_same _ M.gp 8 _ _ _ hst, h.left.at_ fun j cs z hj => setSt_other hst (by decide) hj, h.nodes.at_ (fun j cs hj => setSt_other hst (by decide) hj) (fun j cs hj => setSt_other hst (by decide) hj), h.mods.at_ (hm h.mods), h.funs.at_ (hm h.funs), h.taken.at_ fun g e => ?_, h.vis.at_ fun g e => ?_,
    ?_, ownsRow_at h.calls fun j cs hj => setSt_other hst (by decide) hj, h.o1, h.o2, h.o3, h.o4, h.o5, h.n1, h.n2, h.n3, Nat.le_trans h.hb hT.size, h.goodT, fun m hm => h.goodS m (List.mem_of_mem_take hm), h.goodC, h.sum, by show (s.shown.take k).length ≤ s.cnt; rw [List.length_take]; have := h.sh; omega, h.ca, h.dep, h.flt, h.vs.on (hT.below h.hb fun j e => by rw [show j = M.gp from e]; exact h.o1) h.gb, h.gb, h.vb⟩, hT, ?_⟩
  · rcases h.taken with ⟨h1, _⟩ | ⟨g', h1, h2⟩
    · rw [h1] at e; cases e
    · rw [h1] at e; injection e with e; subst e; exact hm h2
  · rcases h.vis with ⟨h1, _⟩ | ⟨g', h1, h2⟩
    · rw [h1] at e; cases e
    · rw [h1] at e; injection e with e; subst e; exact hm h2
  · have e1 : (s.shown.take k).length = k := by rw [List.length_take]; omega
    have e2 : strC (s.shown.take k) = (strC s.shown).take (k * 1) := by unfold strC; rw [List.map_take, Nat.mul_one]
    show World.ownsRow _ base _ 1 (.slice A k c) (s.shown.take k).length (strC (s.shown.take k))
    rw [e1, e2]
    exact ownsRow_at hcut fun j cs hj => setSt_other hst (by decide) hj
  · intro j hj
    have hob : (Value.slice A k c).ownBlock = (Value.slice A s.shown.length c).ownBlock := by cases A <;> rfl
    rcases hj with e | e | e | e | e | e | e | e | e
    · exact .inl e
    · exact .inr (.inl e)
    · exact .inr (.inr (.inl e))
    · exact .inr (.inr (.inr (.inl e)))
    · exact .inr (.inr (.inr (.inr (.inl e))))
    · exact .inr (.inr (.inr (.inr (.inr (.inl e)))))
    · exact .inr (.inr (.inr (.inr (.inr (.inr (.inl e))))))
    · exact .inr (.inr (.inr (.inr (.inr (.inr (.inr (.inl (by rw [hsv]; exact hob ▸ e))))))))
    · exact .inr (.inr (.inr (.inr (.inr (.inr (.inr (.inr e)))))))
end Go.Proofs.YtecbaceinifjiaaGreatDoor
namespace Go.Proofs.YtecbaceinifjiaaGreatDoor
open Go.RowKit
set_option linter.unusedSimpArgs false
set_option linter.unusedVariables false
set_option maxRecDepth 100000
attribute [local go_sem] Oper.semAt_some undef
/-- Ahead of a round. -/
def HidI (w : World) (base : Nat) (M : GM) (s : PS) (k n : Nat) (iv : Value) (wr : World) : Prop :=
  ∃ j, j ≤ n ∧ iv = .int .i64 (j : Int) ∧ GR wr base M { s with vis := hideV ((s.shown.drop k).take j) s.vis } ∧ Touch w wr (OwnG M)
set_option maxHeartbeats 8000000 in
/-- Some are hidden. -/
theorem hide_some (w : World) (base : Nat) (M : GM) (s : PS) (h : GR w base M s) (k gv : Nat) (hk : k < s.shown.length) (hgv : M.vv = some gv) :
    Calls Tryz.prog 121 #[.pointer (some ⟨M.gp, 4, none⟩), .int .i64 (k : Int)] w fun e w' => e = .returned (.tuple #[]) ∧ GStep w base M (hideS k s) w' := by
  obtain ⟨g, c, hsv, hbg, hgl⟩ := h.shown.form (by omega)
  obtain ⟨⟨c0, c1, c2, c3, c4, c5, c6, c7, c8, c9, c10⟩, hf⟩ := h.cells
  have hcap : s.shown.length ≤ c ∧ c ≤ maxLen := by
    rcases h.shown.2 with ⟨e, h0⟩ | ⟨g2, cap, cur, e, _, _, hc, hm, _⟩
    · rw [hsv] at e; cases e
    · rw [hsv] at e; injection e with _ _ e; subst e; exact ⟨hc, hm⟩
  have hcnt : s.cnt ≤ 10000000 := by have := h.sum; omega
  have hsh := h.sh
  rw [hsv] at c8
  rw [hgv] at c7
  obtain ⟨S, hS⟩ : ∃ S, S = s.shown.length := ⟨_, rfl⟩
  rw [← hS] at c8 hk hcap hsh hsv
  obtain ⟨hc1, hc2⟩ := hcap
  unfold maxLen at hc2
  have HH := Lib.hid h
  have HSV := Lib.hid hsv
  have HS := Lib.hid hS
  have HST : Hid (HidI w base M s k (S - k) (.int .i64 0) w) := Lib.hid ⟨0, Nat.zero_le _, rfl, h, Touch.refl _ _⟩
  have HGV := Lib.hid hgv
  have hkI : (k : Int) ≤ (S : Int) := by omega
  have hcI : (S : Int) ≤ (c : Int) := by omega
  have hck : ¬ c - k = 0 := by omega
  clear h hf c0 c1 c2 c3 c4 c5 c6 c9 c10 hsv hS hgv hbg hgl hc2
  go_enter Tryz.func121, Tryz.ntmps121
  go_wp2_with fail
  obtain ⟨n, hn⟩ : ∃ n, n = S - k := ⟨_, rfl⟩
  rw [← hn]
  rw [← hn] at HST
  have HN := Lib.hid hn
  have hnb : n ≤ 10000000 := by omega
  have HKL : Hid (k < S) := Lib.hid hk
  clear hn c7 c8 hck
  go_loopw [13] (fun iv wr => HidI w base M s k n iv wr) (fun iv _ => n - (intOf iv).toNat)
  case atStart => exact HST.out
  case round =>
    obtain ⟨j, hj, rfl, hg, hT⟩ := hrel
    obtain ⟨⟨_, _, _, _, _, _, _, d7, d8, _, _⟩, hf⟩ := hg.cells
    have f8 := hf 8
    rw [HGV.out] at d7
    rw [HSV.out] at d8
    by_cases hlt : j < n
    · have hltI : (j : Int) < (n : Int) := by omega
      obtain ⟨x, hx⟩ : ∃ x, (s.shown.drop k)[j]? = some x := ⟨_, List.getElem?_eq_getElem (by rw [List.length_drop, ← HS.out, ← HN.out]; exact hlt)⟩
      have hx2 : s.shown[k + j]? = some x := by rw [← List.getElem?_drop]; exact hx
      have hgx : GoodN x := HH.out.goodS x (List.mem_of_getElem? hx2)
      have hsr := hg.shown
      rw [HSV.out] at hsr
      have hsr2 : wr.ownsRow base 9 1 (.slice (some ⟨g, 0, none⟩) S c) S (strC s.shown) := by rw [HS.out]; rw [HS.out] at hsr; exact hsr
      have hce : wr.cell? ⟨g, k + j, none⟩ = some (.string (ba x)) := by rw [hsr2.cellAt (k + j) (by have := HN.out; omega)]; unfold strC; rw [List.getElem?_map, hx2]; rfl
      obtain ⟨l, hkl⟩ := strKeyOf hgx
      have HG := Lib.hid hg
      have HT := Lib.hid hT
      have HX := Lib.hid hx
      have HGX := Lib.hid hgx
      have HKL2 := Lib.hid hkl
      clear hf hg hT hx hx2 hgx hsr hsr2 hkl d8 f8
      go_wp2_with (at_delete; go_loud (
        refine wpList_gless rfl _ _ rfl strKeyed Tryz.underlying51 rfl (HG.out.visF HGV.out) (.string (ba x)) l HKL2.out rfl (fS (put1 (hideV ((s.shown.drop k).take j) s.vis) (str (ba x)) 0)) (fS_put _ _ _) (fS_other _ _ _) ?_;
        intro w2 hm2 ht2;
        rw [str_ba HGX.out.1] at hm2;
        have hg2 := HG.out.lessVis HGV.out (put1 (hideV ((s.shown.drop k).take j) s.vis) x 0) hm2 ht2.grown (fun y => by unfold put1; split; exact Nat.succ_pos _; exact HG.out.vb y);
        have hT2 := HT.out.trans (Touch.map (S := OwnG M) ht2.grown (.inr (.inr (.inr (.inr (.inr (.inr (.inl HGV.out)))))))) fun j e => .inl e;
        have HG2 := Lib.hid hg2;
        have HT2 := Lib.hid hT2;
        clear hm2 ht2 hg2 hT2))
      go_roundw
      case rel =>
        refine ⟨j + 1, by omega, by go_num, ?_, HT2.out⟩
        rw [List.take_add_one, HX.out]
        show GR _ base M { s with vis := hideV ((s.shown.drop k).take j ++ [x]) s.vis }
        rw [hideV_snoc]
        exact HG2.out
      case measure =>
        simp [intOf]
        omega
    · have hnI : ¬ (j : Int) < (n : Int) := by omega
      have e1 : (s.shown.drop k).take j = s.shown.drop k := List.take_of_length_le (by rw [List.length_drop, ← HS.out, ← HN.out]; omega)
      rw [e1] at hg
      have hcut := hg.cutShown (k := k) (A := some ⟨g, 0, none⟩) (c := c) (by rw [HSV.out, HS.out]) (by show k ≤ s.shown.length; rw [← HS.out]; exact Nat.le_of_lt HKL.out)
      have HT := Lib.hid hT
      have HCUT := Lib.hid hcut
      clear hf hg hT hcut e1
      go_wp2_with fail
      go_end0
      obtain ⟨h1, h2, h3⟩ := HCUT.out
      exact ⟨rfl, ⟨_, h1, rfl, HT.out.trans h2 (fun j e => .inl (.inl e)), fun j hj => .inl (h3 j hj), fun hl => hl⟩⟩
set_option maxHeartbeats 8000000 in
theorem hide_nil (w : World) (base : Nat) (M : GM) (s : PS) (h : GR w base M s) (hsv0 : M.sv = .slice none 0 0) (hS0 : s.shown.length = 0) :
    Calls Tryz.prog 121 #[.pointer (some ⟨M.gp, 4, none⟩), .int .i64 (0 : Int)] w fun e w' => e = .returned (.tuple #[]) ∧ GStep w base M (hideS s.shown.length s) w' := by
  obtain ⟨⟨c0, c1, c2, c3, c4, c5, c6, c7, c8, c9, c10⟩, hf⟩ := h.cells
  have f8 := hf 8
  have hsh := h.sh
  have hsum := h.sum
  have hsv : M.sv = .slice none s.shown.length 0 := by rw [hS0]; exact hsv0
  have hcut := h.cutShown (k := 0) (A := none) (c := 0) hsv (Nat.zero_le _)
  have hfin : GStep w base M (hideS s.shown.length s) (w.setCell ⟨M.gp, 8, none⟩ (.slice none 0 0)) := by
    have e : hideS s.shown.length s = { s with shown := s.shown.take 0 } := by unfold hideS; rw [List.drop_length, hS0]; rfl
    rw [e]
    exact ⟨_, hcut.1, rfl, hcut.2.1.more fun j e => .inl e, fun j hj => .inl (hcut.2.2 j hj), fun hl => hl⟩
  have HCUT := Lib.hid hfin
  rw [hsv0] at c8
  clear h hcut hfin hsv hsv0 hS0 hf c0 c1 c2 c3 c4 c5 c6 c7 c9 c10 hsum hsh
  go_enter Tryz.func121, Tryz.ntmps121
  go_wp2_with fail
  go_loopw [13] (fun iv wr => iv = .int .i64 0 ∧ wr = w) (fun _ _ => 0)
  case atStart => exact ⟨rfl, rfl⟩
  case round =>
    obtain ⟨rfl, rfl⟩ := hrel
    go_wp2_with fail
    go_end0
    exact ⟨rfl, HCUT.out⟩
set_option maxHeartbeats 8000000 in
theorem hide_full (w : World) (base : Nat) (M : GM) (s : PS) (h : GR w base M s) (g c : Nat) (hsv : M.sv = .slice (some ⟨g, 0, none⟩) s.shown.length c) (hc : c ≤ 9223372036854775807) (hx : c = s.shown.length) :
    Calls Tryz.prog 121 #[.pointer (some ⟨M.gp, 4, none⟩), .int .i64 (s.shown.length : Int)] w fun e w' => e = .returned (.tuple #[]) ∧ GStep w base M (hideS s.shown.length s) w' := by
  obtain ⟨⟨c0, c1, c2, c3, c4, c5, c6, c7, c8, c9, c10⟩, hf⟩ := h.cells
  have f8 := hf 8
  have hsh := h.sh
  have hsum := h.sum
  have hcut := h.cutShown (k := s.shown.length) (A := (some ⟨g, 0, none⟩)) (c := c) hsv (Nat.le_refl _)
  have hfin : GStep w base M (hideS s.shown.length s) (w.setCell ⟨M.gp, 8, none⟩ (.slice (some ⟨g, 0, none⟩) s.shown.length c)) := by
    have e : hideS s.shown.length s = { s with shown := s.shown.take s.shown.length } := by unfold hideS; rw [List.drop_length]; rfl
    rw [e]
    exact ⟨_, hcut.1, rfl, hcut.2.1.more fun j e => .inl e, fun j hj => .inl (hcut.2.2 j hj), fun hl => hl⟩
  have HCUT := Lib.hid hfin
  rw [hsv] at c8
  obtain ⟨S, hS⟩ : ∃ S, S = s.shown.length := ⟨_, rfl⟩
  rw [← hS] at HCUT hsh c8 hx ⊢
  subst hx
  clear h hcut hfin hsv hf c0 c1 c2 c3 c4 c5 c6 c7 c9 c10 hS
  go_enter Tryz.func121, Tryz.ntmps121
  go_wp2_with fail
  go_loopw [13] (fun iv wr => iv = .int .i64 0 ∧ wr = w) (fun _ _ => 0)
  case atStart => exact ⟨rfl, rfl⟩
  case round =>
    obtain ⟨rfl, rfl⟩ := hrel
    go_wp2_with fail
    go_end0
    exact ⟨rfl, HCUT.out⟩
set_option maxHeartbeats 8000000 in
theorem hide_room (w : World) (base : Nat) (M : GM) (s : PS) (h : GR w base M s) (g c : Nat) (hsv : M.sv = .slice (some ⟨g, 0, none⟩) s.shown.length c) (hc : c ≤ 9223372036854775807) (hx : s.shown.length < c) :
    Calls Tryz.prog 121 #[.pointer (some ⟨M.gp, 4, none⟩), .int .i64 (s.shown.length : Int)] w fun e w' => e = .returned (.tuple #[]) ∧ GStep w base M (hideS s.shown.length s) w' := by
  obtain ⟨⟨c0, c1, c2, c3, c4, c5, c6, c7, c8, c9, c10⟩, hf⟩ := h.cells
  have f8 := hf 8
  have hsh := h.sh
  have hsum := h.sum
  have hcut := h.cutShown (k := s.shown.length) (A := (some ⟨g, 0, none⟩)) (c := c) hsv (Nat.le_refl _)
  have hfin : GStep w base M (hideS s.shown.length s) (w.setCell ⟨M.gp, 8, none⟩ (.slice (some ⟨g, 0, none⟩) s.shown.length c)) := by
    have e : hideS s.shown.length s = { s with shown := s.shown.take s.shown.length } := by unfold hideS; rw [List.drop_length]; rfl
    rw [e]
    exact ⟨_, hcut.1, rfl, hcut.2.1.more fun j e => .inl e, fun j hj => .inl (hcut.2.2 j hj), fun hl => hl⟩
  have HCUT := Lib.hid hfin
  rw [hsv] at c8
  obtain ⟨S, hS⟩ : ∃ S, S = s.shown.length := ⟨_, rfl⟩
  rw [← hS] at HCUT hsh c8 hx ⊢
  have hcI : (S : Int) ≤ (c : Int) := by omega
  have hck : ¬ c - S = 0 := by omega
  clear h hcut hfin hsv hf c0 c1 c2 c3 c4 c5 c6 c7 c9 c10 hS
  go_enter Tryz.func121, Tryz.ntmps121
  go_wp2_with fail
  go_loopw [13] (fun iv wr => iv = .int .i64 0 ∧ wr = w) (fun _ _ => 0)
  case atStart => exact ⟨rfl, rfl⟩
  case round =>
    obtain ⟨rfl, rfl⟩ := hrel
    go_wp2_with fail
    go_end0
    exact ⟨rfl, HCUT.out⟩
theorem hide_any (w : World) (base : Nat) (M : GM) (s : PS) (h : GR w base M s) (k : Nat) (hk : k ≤ s.shown.length) (hl : Live M) :
    Calls Tryz.prog 121 #[.pointer (some ⟨M.gp, 4, none⟩), .int .i64 (k : Int)] w fun e w' => e = .returned (.tuple #[]) ∧ GStep w base M (hideS k s) w' := by
  obtain ⟨_, gv, hgv⟩ := hl
  rcases Nat.lt_or_ge k s.shown.length with h1 | h1
  · exact hide_some w base M s h k gv h1 hgv
  · obtain rfl : k = s.shown.length := by omega
    rcases h.shown.2 with ⟨e, h0⟩ | ⟨g, cap, cur, e, _, _, hc, hm, _⟩
    · have := hide_nil w base M s h e h0
      rw [h0] at this ⊢
      exact this
    · have hcb : cap ≤ 9223372036854775807 := by unfold maxLen at hm; omega
      rcases Nat.lt_or_ge s.shown.length cap with h2 | h2
      · exact hide_room w base M s h g cap e hcb h2
      · exact hide_full w base M s h g cap e hcb (by omega)
end Go.Proofs.YtecbaceinifjiaaGreatDoor
namespace Go.Proofs.YtecbaceinifjiaaGreatDoor
open Go.RowKit
set_option linter.unusedSimpArgs false
set_option linter.unusedVariables false
set_option maxRecDepth 100000
attribute [local go_sem] Oper.semAt_some undef
set_option maxHeartbeats 4000000 in
theorem take_no (w : World) (base : Nat) (M : GM) (s : PS) (h : GR w base M s) (c : ByteArray) (hn : isS (str c) s = false) :
    Calls Tryz.prog 65 #[.pointer (some ⟨M.gp, 0, none⟩), .string c] w fun e w' => e = .returned (.bool false) ∧ w = w' := by
  have his := is_any w base M s h c
  rw [hn] at his
  have HIS := Lib.hid his
  clear h his hn
  go_enter Tryz.func65, Tryz.ntmps65
  go_wp2_with (go_at_call 48; (with_reducible refine (HIS.out).mono ?_); rintro e w1 ⟨rfl, rfl⟩)
  go_ret
  exact ⟨rfl, rfl⟩
theorem take_yes (w : World) (base : Nat) (M : GM) (s : PS) (h : GR w base M s) (c : ByteArray) (hn : isS (str c) s = true) :
    Calls Tryz.prog 65 #[.pointer (some ⟨M.gp, 0, none⟩), .string c] w fun e w' => e = .returned (.bool true) ∧ LStep w base M (nextS s) w' := by
  have ht := take_any w base M s h c
  unfold takeS at ht
  rw [hn, if_pos rfl] at ht
  exact ht
end Go.Proofs.YtecbaceinifjiaaGreatDoor
