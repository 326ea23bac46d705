/- The law ReelGoes, walked. -/
import Derived.Test.YtalpippeelomjaaZ45
namespace Go.Proofs.Ytalpippeelomjaa
open Go.RowKit Go.Shelf
set_option linter.unusedSimpArgs false
set_option linter.unusedVariables false
theorem TBytes.b {w : World} {v : Value} {l : List Nat} (h : TBytes w v l) : Bytes w w.heap.size v l := h.1
def cut7 (ls : List (List Nat)) (k : Nat) : List (List Nat) := (ls.take k).map (·.take 700)
theorem cut7_next {ls : List (List Nat)} {k : Nat} {l : List Nat} (hl : ls[k]? = some l) : cut7 ls (k + 1) = cut7 ls k ++ [l.take 700] := by
  unfold cut7
  rw [List.take_add_one, hl, List.map_append]
  rfl
theorem cut7_fit (ls : List (List Nat)) (k : Nat) : ∀ r ∈ cut7 ls k, r.length ≤ 700 := fun r hr => by
  unfold cut7 at hr
  obtain ⟨x, _, rfl⟩ := List.mem_map.1 hr
  rw [List.length_take]
  omega
theorem cut7_len (ls : List (List Nat)) (k : Nat) : (cut7 ls k).length ≤ k := by
  unfold cut7
  rw [List.length_map, List.length_take]
  omega
def crownBox (w : World) (B gen h s : Nat) : Prop := w.heap[B]? = some (.cells #[.int .u32 (gen : Int), .int .u8 (h : Int), .int .u32 (s : Int)] 24 (0, 0))
theorem crownBox.cells {w : World} {B gen h s : Nat} (hb : crownBox w B gen h s) : w.cell? ⟨B, 0, none⟩ = some (.int .u32 (gen : Int)) ∧ w.cell? ⟨B, 1, none⟩ = some (.int .u8 (h : Int)) ∧ w.cell? ⟨B, 2, none⟩ = some (.int .u32 (s : Int)) := by
  unfold crownBox at hb
  exact ⟨by unfold World.cell?; rw [hb]; rfl, by unfold World.cell?; rw [hb]; rfl, by unfold World.cell?; rw [hb]; rfl⟩
theorem noLog_crown {cs : Array Value} {fr : Nat × Nat} : NoLog (.cells cs 24 fr) := noLog_of (by decide) (by decide) (by decide) (by decide) (by decide) (by decide)
def GoesI (w : World) (base gs gen h s B n j0 : Nat) (ls : List (List Nat)) (r all i : Value) (wr : World) : Prop :=
  ∃ (k gr ser : Nat) (dur : List (List Nat)) (pend : List (Nat × List Nat)) (b : DB) (pv : Value) (ps : List PV) (nw : Int), k ≤ n ∧ k ≤ 12 ∧ r = .pointer (some ⟨gr, 0, none⟩) ∧ i = .int .i64 (k : Int) ∧ LogS wr base gs gr gen ser (halfN 40 h) 19 (k * 2048) (cut7 ls k) dur pend b pv ps nw ∧ dur.length = 40 ∧
    (k ≤ j0 → ser = s + 1 ∧ (0 < k → ∃ q ∈ pgs ps, q.ser = s + 1)) ∧ ser ≤ s + 2 ∧ Rows3 wr base all (cut7 ls k) ∧ crownBox wr B gen h s ∧ Below w.heap.size w wr
theorem reopen_logS {w : World} {base gs gr gen ser h s N : Nat} {recs dur : List (List Nat)} {pend : List (Nat × List Nat)} {b : DB} {pv : Value} {ps : List PV} {nw : Int} (hL : LogS w base gs gr gen ser (halfN 40 h) 19 N recs dur pend b pv ps nw) (hd : dur.length = 40) (hh : h ≤ 1) (hs : ser < 4294967295) (hs0 : s < 4294967295) (y : World) (hy : Below w.heap.size w y) :
    Calls Try.prog 12 #[.pointer (some ⟨gs, 0, none⟩), .agg #[.int .u32 (gen : Int), .int .u8 (h : Int), .int .u32 (s : Int)]] y fun e w' => ∃ gr2, e = .returned (.tuple #[.pointer (some ⟨gr2, 0, none⟩), .int .i64 0, .int .i64 0]) ∧ Log w' base gs gr2 gen ((topS s (pgs ps) + 1) % 4294967296) (halfN 40 h) 19 N recs dur pend ∧ Below y.heap.size y w' := by
  have hK : halfK 40 h = 19 := by unfold halfK; rw [if_neg (by omega)]
  have hy2 := hL.below hy
  have h1 := open_log (N := N) (base := base) hy2.disk h s ser (pgs ps) (by rw [hd, hK]; exact hL.clean) hL.hg hs hs0 (by omega) hh hL.hp hL.hn hL.o1 hL.o3 hL.o4 hL.o5 hy2.hb
  rw [hd, hK] at h1
  refine h1.mono ?_
  rintro e w' ⟨hb, gr2, e1, e2, e3⟩
  exact ⟨gr2, e1, e3, hb⟩
set_option maxRecDepth 100000 in
set_option maxHeartbeats 16000000 in
theorem reelGoes_walk (gen h0 s0 : Nat) (A : Option Addr) (n c : Nat) (ls : List (List Nat)) (cut : Nat) (w : World) (hg : gen < 4294967296) (hh0 : h0 < 256) (hs0 : s0 < 4294967296) (hp : Parts w w.heap.size (.slice A n c) ls) (hcut : cut < 256) :
    Calls Try.prog 8 #[.agg #[.int .u32 (gen : Int), .int .u8 (h0 : Int), .int .u32 (s0 : Int)], .slice A n c, .int .u8 (cut : Int)] w fun e w' => e = .returned (.bool true) ∧ Below w.heap.size w w' := by
  obtain ⟨h, hh⟩ : ∃ h, h = h0 % 2 := ⟨_, rfl⟩
  obtain ⟨s, hs⟩ : ∃ s, s = s0 / 2 := ⟨_, rfl⟩
  obtain ⟨j0, hj0⟩ : ∃ j, j = cut % 12 := ⟨_, rfl⟩
  have e1 : (h0 : Int) % 2 = (h : Int) := by omega
  have e1' : (h0 : Int).tmod 2 = (h : Int) := by rw [Int.tmod_eq_emod_of_nonneg (by omega)]; exact e1
  have e2 : (s0 : Int) / 2 = (s : Int) := by omega
  have e2' : (s0 : Int).tdiv 2 = (s : Int) := by rw [Int.tdiv_eq_ediv_of_nonneg (by omega)]; exact e2
  have e3 : (cut : Int) % 12 = (j0 : Int) := by omega
  have e3' : (cut : Int).tmod 12 = (j0 : Int) := by rw [Int.tmod_eq_emod_of_nonneg (by omega)]; exact e3
  have hh1 : h ≤ 1 := by omega
  have hs1 : s < 2147483648 := by omega
  have hj1 : j0 < 12 := by omega
  have hlong := hp.long
  unfold maxLen at hlong
  have hnl : n = ls.length := by
    obtain ⟨⟨A', c', vs, hv, _⟩, _⟩ := hp
    injection hv
  rw [← hnl] at hlong
  have HNL := Lib.hid hnl
  have HPP := Lib.hid hp
  obtain ⟨i0, hi0, hz0, hz1, hz2⟩ := info_parts infoSlice
  have HI := Lib.hid hi0
  have H0 := Lib.hid hz0
  have H1 := Lib.hid hz1
  have H2 := Lib.hid hz2
  have HN : Hid (∀ y, Calls Try.prog 11 #[.int .i64 40] y fun e w' => ∃ gs b, e = .returned (.tuple #[.pointer (some ⟨gs, 0, none⟩), .int .i64 0]) ∧ Disk w' gs b (List.replicate 40 noughts) [] 0 (-1) ∧ y.heap.size ≤ gs ∧ y.heap.size ≤ b.gd ∧ y.heap.size ≤ b.gl ∧ b.pv = .slice none 0 0 ∧ Below y.heap.size y w') := Lib.hid fun y => new_good y 40 (by omega) (by omega)
  obtain ⟨B, hB⟩ : ∃ B, B = w.heap.size := ⟨_, rfl⟩
  have HBE := Lib.hid hB
  clear hh hs hj0 hp hnl hi0 hz0 hz1 hz2 hB
  go_enter Try.func8, Try.ntmps8
  go_wp2_with (first
    | (go_at_call 10; (with_reducible refine (awake_true _).mono ?_); rintro e w1 ⟨rfl, hw1⟩; go_loud (
        have hb1 : w1.heap[w.heap.size]? = some (.cells #[.int .u32 (gen : Int), .int .u8 (h0 : Int), .int .u32 (s0 : Int)] 24 (0, 0)) := (hw1.block w.heap.size (by simp)).trans (Go.heap_alloc_new w _);
        have q1 : w1.cell? ⟨w.heap.size, 1, none⟩ = some (.int .u8 (h0 : Int)) := (by unfold World.cell?; rw [hb1]; rfl);
        have q2 : w1.cell? ⟨w.heap.size, 2, none⟩ = some (.int .u32 (s0 : Int)) := (by unfold World.cell?; rw [hb1]; rfl);
        have f1 : w1.frozen? ⟨w.heap.size, 1, none⟩ = false := frozen_of_row w1 _ _ _ _ hb1;
        have f2 : w1.frozen? ⟨w.heap.size, 2, none⟩ = false := frozen_of_row w1 _ _ _ _ hb1;
        have HB1 := Lib.hid hb1;
        have HW1 : Hid (Below w.heap.size w w1 ∧ w.heap.size < w1.heap.size) := Lib.hid ⟨((Below.refl w.heap.size w).alloc (Nat.le_refl _) _).trans (hw1.mono (by simp)), (by have := hw1.size; simp at this; omega)⟩;
        clear hb1 hw1))
    | (go_at_call 11; (with_reducible refine (HN.out _).mono ?_); rintro e w2 ⟨gs, bb, rfl, hD2, hgs, hgd, hgl, hpv, hw2⟩; go_loud (
        have hsz : ((w1.setCell ⟨w.heap.size, 1, none⟩ (.int .u8 (h : Int))).setCell ⟨w.heap.size, 2, none⟩ (.int .u32 (s : Int))).heap.size = w1.heap.size := (by simp [World.setCell]);
        rw [hsz] at hgs hgd hgl hw2;
        have hbx : crownBox w2 w.heap.size gen h s := (hw2.block w.heap.size HW1.out.2).trans (by rw [heap_setCell_same _ _ _ _ _ _ (heap_setCell_same _ _ _ _ _ _ HB1.out)]; rfl);
        have hbw : Below w.heap.size w w2 := ((HW1.out.1.setCell (p := ⟨w.heap.size, 1, none⟩) (Nat.le_refl _) (.int .u8 (h : Int))).setCell (p := ⟨w.heap.size, 2, none⟩) (Nat.le_refl _) (.int .u32 (s : Int))).trans (hw2.mono (by have := HW1.out.2; omega));
        obtain ⟨u0, u1, u2⟩ := hbx.cells;
        have hs2 := hw2.size;
        rw [hsz] at hs2;
        have HOP : Hid (Calls Try.prog 12 #[.pointer (some ⟨gs, 0, none⟩), .agg #[.int .u32 (gen : Int), .int .u8 (h : Int), .int .u32 (s : Int)]] w2 fun e w' => ∃ gr, e = .returned (.tuple #[.pointer (some ⟨gr, 0, none⟩), .int .i64 0, .int .i64 0]) ∧ Log w' w1.heap.size gs gr gen (s + 1) (halfN 40 h) 19 0 [] (List.replicate 40 noughts) [] ∧ Below w2.heap.size w2 w') := Lib.hid ((open_fresh (base := w1.heap.size) hD2 gen h s hg (by omega) (by decide) hh1 hgs hgd hgl hpv hs2).mono (fun e w' ⟨q1, gr, q2, q3, q4⟩ => ⟨gr, q2, by rw [show halfK 40 h = 19 from (by unfold halfK; rw [if_neg (by omega)])] at q4; exact q4, q1⟩));
        have HBX := Lib.hid hbx;
        have HBW := Lib.hid hbw;
        have HS2 : Hid (w1.heap.size ≤ w2.heap.size ∧ w.heap.size < w1.heap.size) := Lib.hid ⟨hs2, HW1.out.2⟩;
        clear hD2 hgs hgd hgl hpv hw2 hsz hbx hbw hs2 q1 q2 f1 f2))
    | (go_at_call 12; (with_reducible refine (HOP.out).mono ?_); rintro e w3 ⟨gr, rfl, hL3, hb3⟩; go_loud (
        obtain ⟨b3, pv3, ps3, nw3, hS3⟩ := hL3;
        have HL := Lib.hid hS3;
        have HBX3 : Hid (crownBox w3 w.heap.size gen h s) := Lib.hid ((hb3.block w.heap.size (by have := HS2.out; omega)).trans HBX.out);
        have HBW3 := Lib.hid (HBW.out.trans (hb3.mono HBW.out.size));
        have HB03 := hb3.size;
        clear HOP hS3 hb3)))
  go_loopw [9, 12, 44] (fun r all i wr => GoesI w w1.heap.size gs gen h s w.heap.size n j0 ls r all i wr) (fun _ _ i _ => n - (intOf i).toNat)
  case atStart =>
    refine ⟨0, gr, s + 1, List.replicate 40 noughts, [], b3, pv3, ps3, nw3, Nat.zero_le _, by omega, rfl, rfl, HL.out, List.length_replicate, fun _ => ⟨rfl, fun h => by omega⟩, by omega, Rows3.nil _ _, HBX3.out, HBW3.out⟩
  case round =>
    obtain ⟨k, gr2, ser, dur, pend, bk, pvk, psk, nwk, hk, hk12, rfl, rfl, hS, hdur, hser, hser2, hR, hbx, hb⟩ := hrel
    have hbs := hS.hb
    have hw1b := HS2.out.2
    have hcl : (layR (cut7 ls k)).length ≤ 12 * 705 := by
      have h1 := layR_le (cut7_fit ls k) (by omega)
      have h2 := cut7_len ls k
      have h3 : (cut7 ls k).length * (700 + 5) ≤ 12 * 705 := Nat.mul_le_mul (by omega) (by omega)
      omega
    by_cases hlt : k < n ∧ k < 12
    · obtain ⟨hkn, hk2⟩ := hlt
      have hkge : ¬ (k : Int) ≥ 12 := by omega
      obtain ⟨l, hl⟩ : ∃ l, ls[k]? = some l := ⟨_, List.getElem?_eq_getElem (by rw [← HNL.out]; exact hkn)⟩
      have hpw := HPP.out.along hb
      obtain ⟨⟨A', c', us, hv, hvl, hlies, hby⟩, _⟩ := hpw
      injection hv with e1 e2 e3
      subst e1
      subst e3
      clear e2
      obtain ⟨u, hu⟩ : ∃ u, us[k]? = some u := ⟨_, List.getElem?_eq_getElem (by rw [hvl, ← HNL.out]; exact hkn)⟩
      have hB0 := hby k u l hu hl
      obtain ⟨ad, hA, hbb, hc⟩ := hlies k _ hu
      subst hA
      obtain ⟨p, hpp⟩ : ∃ p, p = l.take 700 := ⟨_, rfl⟩
      have hpl : p.length ≤ 700 := by rw [hpp, List.length_take]; omega
      have hps : ∀ b ∈ p, b < 256 := fun b hb => hB0.small b (by rw [hpp] at hb; exact List.mem_of_mem_take hb)
      have hr1 : (rec1 p).length ≤ 705 := by
        have h3 := num_length_le 2 p.length (by omega)
        unfold rec1
        rw [List.length_append]
        omega
      have hfit : (rec1 p).length + (layR (cut7 ls k)).length ≤ 19 * 487 := by
        have h1 := layR_le (cut7_fit ls k) (by omega)
        have h2 := cut7_len ls k
        have h3 : (cut7 ls k).length * (700 + 5) ≤ 11 * 705 := Nat.mul_le_mul (by omega) (by omega)
        omega
      have hrecs : cut7 ls (k + 1) = cut7 ls k ++ [p] := by rw [cut7_next hl, hpp]
      have hlay1 : layR [p] = rec1 p := by rw [layR_cons, layR_nil, List.append_nil]
      obtain ⟨L, hL⟩ : ∃ L, L = (rec1 p).length := ⟨_, rfl⟩
      obtain ⟨room, hroom⟩ : ∃ R, R = 19 * 487 - (layR (cut7 ls k)).length := ⟨_, rfl⟩
      have hLR : L ≤ room := by omega
      have hLR2 : (L : Int) ≤ (room : Int) := by omega
      have HCU : Hid (Calls Try.prog 29 #[u, .int .i64 700] wr fun e w' => ∃ A c, e = .returned (.slice A p.length c) ∧ Own w' wr.heap.size (.slice A p.length c) p ∧ Below wr.heap.size wr w') := Lib.hid ((cut_any wr u l 700 hB0 (by omega)).mono fun e w' ⟨v, he, hO, hb⟩ => by
        rw [← hpp] at hO
        obtain ⟨A, c, rfl, _⟩ := hO.form
        exact ⟨A, c, he, hO, hb⟩)
      obtain ⟨pn, hpn⟩ : ∃ m, m = p.length := ⟨_, rfl⟩
      rw [← hpn] at HCU
      have KLAY : Hid (∀ (y : World) (gx : Nat) (A : Option Addr) (c : Nat), Bytes y y.heap.size (.slice A pn c) p → y.heap[gx]? = some (.cells #[.slice A pn c] 43 (0, 0)) → Calls Try.prog 21 #[.slice (some ⟨gx, 0, none⟩) 1 1] y fun e w' => ∃ A c, e = .returned (.slice A L c) ∧ Below y.heap.size y w') := Lib.hid fun y gx A c hB hgx => by
        have h := refLayR_any y _ _ (parts1 hgx hB) (by rw [hlay1]; omega)
        rw [hlay1] at h
        refine h.mono ?_
        rintro e w' ⟨u, he, hO, hb⟩
        obtain ⟨A, c, rfl, _⟩ := hO.form
        exact ⟨A, c, by rw [he, hL], hb⟩
      obtain ⟨vs, hv1, hv2, hv3⟩ := id hR
      obtain ⟨Ao, co, rfl⟩ := hR.len
      obtain ⟨dn, hdn⟩ : ∃ x, x = (cut7 ls k).length := ⟨_, rfl⟩
      rw [← hdn] at hv2 ⊢
      have hdl : dn ≤ 12 := by rw [hdn]; have := cut7_len ls k; omega
      have hKx : ∀ (x : World), Below wr.heap.size wr x → crownBox x w.heap.size gen h s := fun x hx => (hx.block w.heap.size (by omega)).trans hbx
      have HREC := Lib.hid hrecs
      have HPN := Lib.hid hpn
      have HPS := Lib.hid hps
      have HFIT := Lib.hid hfit
      have HROOM := Lib.hid hroom
      have HDN := Lib.hid hdn
      have HBb := Lib.hid hb
      have HDUR := Lib.hid hdur
      have hserb : ser < 4294967295 := by omega
      have hpnb : pn ≤ 700 := by omega
      have HSS := Lib.hid hS
      have HRR := Lib.hid hR
      have HX := Lib.hid hbx
      have hcases : (k = j0 ∧ k = 0 ∧ (topS s (pgs psk) + 1) % 4294967296 = ser) ∨ (k = j0 ∧ (0 < k ∧ ser = s + 1) ∧ (topS s (pgs psk) + 1) % 4294967296 = ser + 1) ∨ (k ≠ j0 ∧ (k + 1 ≤ j0 → ser = s + 1)) := by
        by_cases hj : k = j0
        · have hs1' := (hser (by omega)).1
          by_cases h0 : k = 0
          · refine .inl ⟨hj, h0, ?_⟩
            have h1 := hS.clean.few
            have h2 : pgs psk = [] := by
              rw [← List.length_eq_zero_iff, h1, h0]
              simp [cut7, layR, chunkM]
            rw [h2]
            show (s + 1) % 4294967296 = ser
            omega
          · refine .inr (.inl ⟨hj, ⟨by omega, hs1'⟩, ?_⟩)
            have h3 := topS_eq (s := s) (ser := s + 1) (qs := pgs psk) (by omega) (fun q hq => by
              obtain ⟨i, hi⟩ := List.mem_iff_getElem?.1 hq
              have := (hS.clean.at_ i q hi).2.2.2.2.2
              omega) ((hser (by omega)).2 (by omega))
            rw [h3]
            omega
        · exact .inr (.inr ⟨hj, fun h => (hser (by omega)).1⟩)
      clear hrecs hpn hps hfit hroom hdn hb hdur hser hS hR hbx hKx hv1 hv2 hv3 hl hu hB0 hbb hby hlies hvl hpp hlay1 hL hr1 hpl
      have q0 := hc
      clear hc
      rcases hcases with ⟨hkj, hk0, htop⟩ | ⟨hkj, hk0, htop⟩ | ⟨hkj, hsj⟩
      · have k1 : ¬ (k : Int) > 0 := by omega
        have k1' : ¬ 0 < k := by omega
        have k2 : ((k : Int) == 0) = true := by rw [beq_iff_eq]; omega
        have k3 : ((k : Int) == (j0 : Int)) = true := by rw [beq_iff_eq]; omega
        have HTOP := Lib.hid htop
        have HKJ := Lib.hid hkj
        clear htop hk0 hkj
        go_wp2_with (first
          | (go_at_call 29; (with_reducible refine (HCU.out).mono ?_); rintro e wa ⟨Aa, ca, rfl, hOa, hba⟩; go_loud (
              have HT := Lib.hid (TBytes.of_own hOa HPS.out);
              have HL := Lib.hid (HSS.out.below hba);
              have HR3 := Lib.hid (HRR.out.below hba);
              have HBX : Hid (crownBox wa w.heap.size gen h s) := Lib.hid ((hba.block w.heap.size (by omega)).trans HX.out);
              have HBW := Lib.hid (HBb.out.trans (hba.mono HBb.out.size));
              clear HCU hOa hba))
          | (go_at_call 13; (with_reducible refine (sync_logS HL.out).mono ?_); rintro e ws ⟨rfl, ⟨bs, hLs⟩, hKs⟩; go_loud (
              have hls : (applied pend dur).length = 40 := (by rw [applied_length]; exact HDUR.out);
              have HT := Lib.hid (HT.out.keep (.of_kept hKs));
              have HR3 := Lib.hid (HR3.out.kept hKs);
              have hbxs : crownBox ws w.heap.size gen h s := hKs.ty _ _ HBX.out noLog_crown;
              have HBX := Lib.hid hbxs;
              have HBW := Lib.hid (HBW.out.trans (hKs.below.mono (by omega)));
              have HSE := Lib.hid (serial_any hLs.reel.w);
              have HOP2 := Lib.hid (reopen_logS (s := s) hLs hls hh1 hserb (by omega) ws (Below.refl _ _));
              rw [HTOP.out] at HOP2;
              have HL := Lib.hid hLs;
              obtain ⟨u0, u1, u2⟩ := hbxs.cells;
              clear hLs hKs hbxs hls))
          | (go_at_call 34; (with_reducible refine (HSE.out).mono ?_); rintro e wx ⟨rfl, rfl⟩; clear HSE)
          | (go_at_call 12; (with_reducible refine (HOP2.out).mono ?_); rintro e wo ⟨gr3, rfl, hLo, hbo⟩; go_loud (
              obtain ⟨b3, pv3, ps3, nw3, hSo⟩ := hLo;
              have HT := Lib.hid (HT.out.keep (.of_below hbo));
              have HR3 := Lib.hid (HR3.out.below hbo);
              have HBX : Hid (crownBox wo w.heap.size gen h s) := Lib.hid ((hbo.block w.heap.size (by have := HL.out.hb; omega)).trans HBX.out);
              have HBW := Lib.hid (HBW.out.trans (hbo.mono HBW.out.size));
              have HSF := Lib.hid (serial_any hSo.reel.w);
              have HL := Lib.hid hSo;
              have HDUR : Hid ((applied pend dur).length = 40) := Lib.hid (by rw [applied_length]; exact HDUR.out);
              clear HOP2 hSo hbo u0 u1 u2))
          | (go_at_call 34; (with_reducible refine (HSF.out).mono ?_); rintro e wx ⟨rfl, rfl⟩)
          | (go_at_call 21; (with_reducible refine (KLAY.out _ _ _ _ (HT.out.b.along ((Below.refl _ _).alloc (Nat.le_refl _) _)) (Go.heap_alloc_new _ _)).mono ?_); rintro e wl ⟨Al, cl, rfl, hbl⟩; go_loud (
              have hbl2 := ((Below.refl _ _).alloc (Nat.le_refl _) _).trans (hbl.mono (by simp));
              have HT := Lib.hid (HT.out.keep (.of_below hbl2));
              have HR3 := Lib.hid (HR3.out.below hbl2);
              have HBX : Hid (crownBox wl w.heap.size gen h s) := Lib.hid ((hbl2.block w.heap.size (by have := HL.out.hb; omega)).trans HBX.out);
              have HL := Lib.hid (HL.out.below hbl2);
              have HRM := Lib.hid (room_any HL.out.reel.w (by decide) HL.out.size_le);
              rw [← HROOM.out] at HRM;
              have HBW := Lib.hid (HBW.out.trans (hbl2.mono HBW.out.size));
              clear hbl hbl2))
          | (go_at_call 18; (with_reducible refine (HRM.out).mono ?_); rintro e wm ⟨rfl, hbm⟩; go_loud (
              have HT := Lib.hid (HT.out.keep (.of_below hbm));
              have HR3 := Lib.hid (HR3.out.below hbm);
              have HBX : Hid (crownBox wm w.heap.size gen h s) := Lib.hid ((hbm.block w.heap.size (by have := HL.out.hb; omega)).trans HBX.out);
              have HL := Lib.hid (HL.out.below hbm);
              have HAP := Lib.hid (append_logS HL.out (by omega) _ pn _ p HT.out.b (by omega) HFIT.out);
              have HBW := Lib.hid (HBW.out.trans (hbm.mono HBW.out.size));
              clear HRM hbm))
          | (go_at_call 20; (with_reducible refine (HAP.out).mono ?_); rintro e wp ⟨rfl, ⟨pp, bp, pvp, psp, nwp, hLp, hqp⟩, hKp⟩; go_loud (
              have HT := Lib.hid (HT.out.keep (.of_kept hKp));
              have hR3 := HR3.out.kept hKp;
              obtain ⟨vs, hv1, hv2, hv3⟩ := hR3;
              rw [← HDN.out] at hv2;
              have HV1 := Lib.hid hv1;
              have HV2 := Lib.hid hv2;
              have HV3 := Lib.hid hv3;
              have HBX : Hid (crownBox wp w.heap.size gen h s) := Lib.hid (hKp.ty _ _ HBX.out noLog_crown);
              have HBW := Lib.hid (HBW.out.trans (hKp.below.mono (by omega)));
              have HL := Lib.hid hLp;
              have HQ := Lib.hid hqp;
              have hbsp := hLp.hb;
              clear HAP hLp hKp hv1 hv2 hv3 hqp))
          | (at_builtin; go_loud (refine wpList_append_lies _ (by rfl) (.tmp 103) (.tmp 105) 34 (by rfl) w1.heap.size 43 i0 (.slice none 0 0) 1 24 Try.underlying34 HI.out H0.out H1.out H2.out (by rfl) (by omega) (.slice Ao dn co) dn _ (by rfl) (ownsRow_below HV2.out ((Below.refl _ _).alloc (Nat.le_refl _) _)) ⟨wp.heap.size, 0, none⟩ 1 1 [.slice Aa pn ca] (by rfl) (by rfl) (World.news_of_block (heap_new_at rfl)) (by intro u hu; simp at hu; rcases hu with rfl; rfl) (by omega) (by unfold maxLen; omega) (by omega) (Nat.le_trans hbsp (by simp)) _ rfl ?_; intro g6 k6 w6 hown6 hg6 hat6 hlt6)))
        have hoA := ownsRow_below HV2.out ((Below.refl wp.heap.size wp).alloc (Nat.le_refl _) (.cells #[.slice Aa pn ca] 43))
        have hbA := (Below.refl wp.heap.size wp).alloc (Nat.le_refl _) (.cells #[.slice Aa pn ca] 43)
        have HEND : Hid (GoesI w w1.heap.size gs gen h s w.heap.size n j0 ls (.pointer (some ⟨gr3, 0, none⟩)) (.slice (some ⟨g6, 0, none⟩) (dn + 1) k6) (.int .i64 ((k + 1 : Nat) : Int)) w6) := Lib.hid (by
          have hkx : ∀ (j : Nat) (o : Obj), wp.heap[j]? = some o → (∀ cs, o ≠ .cells cs 43 (0, 0)) → w6.heap[j]? = some o := fun j o hj hne => by
            refine (hg6.block j (Nat.lt_of_lt_of_le (lt_of_heap hj) (by simp)) (fun e => ?_)).trans ((hbA.block j (lt_of_heap hj)).trans hj)
            obtain ⟨cs, hcs⟩ := row_heap hoA e.symm
            rw [hbA.block j (lt_of_heap hj), hj] at hcs
            injection hcs with hcs
            exact hne cs hcs
          have hkt : ∀ (j : Nat) (cs : Array Value) (t : TypeId), wp.heap[j]? = some (.cells cs t (0, 0)) → t ≠ 43 → w6.heap[j]? = some (.cells cs t (0, 0)) := fun j cs t hj ht => hkx j _ hj (fun cs' e => by injection e with _ e _; exact ht e)
          have h6 := rows3_more hg6 hown6 HDN.out HV1.out HV2.out HV3.out (Below.refl w1.heap.size wp) hbsp hbA (HT.out.keep (.of_below hbA))
          have hL := HL.out
          have e1 : k * 2048 + 2048 = (k + 1) * 2048 := by omega
          rw [← HREC.out, e1] at hL
          refine ⟨k + 1, _, _, _, _, _, _, _, _, by omega, by omega, rfl, rfl, ⟨hL.disk.kty (fun j cs t hj ht => hkt j cs t hj (by rcases ht with rfl | rfl | rfl | rfl <;> decide)), ⟨hkt _ _ _ hL.reel.st (by decide), hL.reel.pages.kty (fun j cs t hj ht => hkt j cs t hj (by rcases ht with rfl | rfl <;> decide)), hL.reel.long⟩, hL.clean, hL.hs, hL.h2, hL.hg, hL.hr, hL.hp, hL.hn, hL.o1, hL.o2, hL.o3, hL.o4, hL.o5, hL.o6, Nat.le_trans hL.hb h6.2.size⟩, HDUR.out, fun h => absurd HKJ.out (by omega), hser2, by rw [HREC.out]; exact h6.1, hkx _ _ HBX.out (fun cs e => by injection e with _ e _; revert e; decide), HBW.out.trans (h6.2.mono (by omega))⟩)
        clear hown6 hg6 hat6 hoA hbA
        go_wp2
        go_roundw
        case rel => exact HEND.out
        case measure => simp [intOf]; omega
      · have k1 : (k : Int) > 0 := by omega
        have k2 : ((k : Int) == 0) = false := by rw [beq_eq_false_iff_ne]; omega
        have k3 : ((k : Int) == (j0 : Int)) = true := by rw [beq_iff_eq]; omega
        obtain ⟨v2, hv2⟩ : ∃ v, v = ser + 1 := ⟨_, rfl⟩
        rw [← hv2] at htop
        have hvi : (ser : Int) + 1 = (v2 : Int) := by omega
        have hvb : v2 ≤ s + 2 := by omega
        have HTOP := Lib.hid htop
        have HKJ := Lib.hid hkj
        clear htop hk0 hkj hv2
        go_wp2_with (first
          | (go_at_call 29; (with_reducible refine (HCU.out).mono ?_); rintro e wa ⟨Aa, ca, rfl, hOa, hba⟩; go_loud (
              have HT := Lib.hid (TBytes.of_own hOa HPS.out);
              have HL := Lib.hid (HSS.out.below hba);
              have HR3 := Lib.hid (HRR.out.below hba);
              have HBX : Hid (crownBox wa w.heap.size gen h s) := Lib.hid ((hba.block w.heap.size (by omega)).trans HX.out);
              have HBW := Lib.hid (HBb.out.trans (hba.mono HBb.out.size));
              clear HCU hOa hba))
          | (go_at_call 13; (with_reducible refine (sync_logS HL.out).mono ?_); rintro e ws ⟨rfl, ⟨bs, hLs⟩, hKs⟩; go_loud (
              have hls : (applied pend dur).length = 40 := (by rw [applied_length]; exact HDUR.out);
              have HT := Lib.hid (HT.out.keep (.of_kept hKs));
              have HR3 := Lib.hid (HR3.out.kept hKs);
              have hbxs : crownBox ws w.heap.size gen h s := hKs.ty _ _ HBX.out noLog_crown;
              have HBX := Lib.hid hbxs;
              have HBW := Lib.hid (HBW.out.trans (hKs.below.mono (by omega)));
              have HSE := Lib.hid (serial_any hLs.reel.w);
              have HOP2 := Lib.hid (reopen_logS (s := s) hLs hls hh1 hserb (by omega) ws (Below.refl _ _));
              rw [HTOP.out] at HOP2;
              have HL := Lib.hid hLs;
              obtain ⟨u0, u1, u2⟩ := hbxs.cells;
              clear hLs hKs hbxs hls))
          | (go_at_call 34; (with_reducible refine (HSE.out).mono ?_); rintro e wx ⟨rfl, rfl⟩; clear HSE)
          | (go_at_call 12; (with_reducible refine (HOP2.out).mono ?_); rintro e wo ⟨gr3, rfl, hLo, hbo⟩; go_loud (
              obtain ⟨b3, pv3, ps3, nw3, hSo⟩ := hLo;
              have HT := Lib.hid (HT.out.keep (.of_below hbo));
              have HR3 := Lib.hid (HR3.out.below hbo);
              have HBX : Hid (crownBox wo w.heap.size gen h s) := Lib.hid ((hbo.block w.heap.size (by have := HL.out.hb; omega)).trans HBX.out);
              have HBW := Lib.hid (HBW.out.trans (hbo.mono HBW.out.size));
              have HSF := Lib.hid (serial_any hSo.reel.w);
              have HL := Lib.hid hSo;
              have HDUR : Hid ((applied pend dur).length = 40) := Lib.hid (by rw [applied_length]; exact HDUR.out);
              clear HOP2 hSo hbo u0 u1 u2))
          | (go_at_call 34; (with_reducible refine (HSF.out).mono ?_); rintro e wx ⟨rfl, rfl⟩)
          | (go_at_call 21; (with_reducible refine (KLAY.out _ _ _ _ (HT.out.b.along ((Below.refl _ _).alloc (Nat.le_refl _) _)) (Go.heap_alloc_new _ _)).mono ?_); rintro e wl ⟨Al, cl, rfl, hbl⟩; go_loud (
              have hbl2 := ((Below.refl _ _).alloc (Nat.le_refl _) _).trans (hbl.mono (by simp));
              have HT := Lib.hid (HT.out.keep (.of_below hbl2));
              have HR3 := Lib.hid (HR3.out.below hbl2);
              have HBX : Hid (crownBox wl w.heap.size gen h s) := Lib.hid ((hbl2.block w.heap.size (by have := HL.out.hb; omega)).trans HBX.out);
              have HL := Lib.hid (HL.out.below hbl2);
              have HRM := Lib.hid (room_any HL.out.reel.w (by decide) HL.out.size_le);
              rw [← HROOM.out] at HRM;
              have HBW := Lib.hid (HBW.out.trans (hbl2.mono HBW.out.size));
              clear hbl hbl2))
          | (go_at_call 18; (with_reducible refine (HRM.out).mono ?_); rintro e wm ⟨rfl, hbm⟩; go_loud (
              have HT := Lib.hid (HT.out.keep (.of_below hbm));
              have HR3 := Lib.hid (HR3.out.below hbm);
              have HBX : Hid (crownBox wm w.heap.size gen h s) := Lib.hid ((hbm.block w.heap.size (by have := HL.out.hb; omega)).trans HBX.out);
              have HL := Lib.hid (HL.out.below hbm);
              have HAP := Lib.hid (append_logS HL.out (by omega) _ pn _ p HT.out.b (by omega) HFIT.out);
              have HBW := Lib.hid (HBW.out.trans (hbm.mono HBW.out.size));
              clear HRM hbm))
          | (go_at_call 20; (with_reducible refine (HAP.out).mono ?_); rintro e wp ⟨rfl, ⟨pp, bp, pvp, psp, nwp, hLp, hqp⟩, hKp⟩; go_loud (
              have HT := Lib.hid (HT.out.keep (.of_kept hKp));
              have hR3 := HR3.out.kept hKp;
              obtain ⟨vs, hv1, hv2, hv3⟩ := hR3;
              rw [← HDN.out] at hv2;
              have HV1 := Lib.hid hv1;
              have HV2 := Lib.hid hv2;
              have HV3 := Lib.hid hv3;
              have HBX : Hid (crownBox wp w.heap.size gen h s) := Lib.hid (hKp.ty _ _ HBX.out noLog_crown);
              have HBW := Lib.hid (HBW.out.trans (hKp.below.mono (by omega)));
              have HL := Lib.hid hLp;
              have HQ := Lib.hid hqp;
              have hbsp := hLp.hb;
              clear HAP hLp hKp hv1 hv2 hv3 hqp))
          | (at_builtin; go_loud (refine wpList_append_lies _ (by rfl) (.tmp 103) (.tmp 105) 34 (by rfl) w1.heap.size 43 i0 (.slice none 0 0) 1 24 Try.underlying34 HI.out H0.out H1.out H2.out (by rfl) (by omega) (.slice Ao dn co) dn _ (by rfl) (ownsRow_below HV2.out ((Below.refl _ _).alloc (Nat.le_refl _) _)) ⟨wp.heap.size, 0, none⟩ 1 1 [.slice Aa pn ca] (by rfl) (by rfl) (World.news_of_block (heap_new_at rfl)) (by intro u hu; simp at hu; rcases hu with rfl; rfl) (by omega) (by unfold maxLen; omega) (by omega) (Nat.le_trans hbsp (by simp)) _ rfl ?_; intro g6 k6 w6 hown6 hg6 hat6 hlt6)))
        have hoA := ownsRow_below HV2.out ((Below.refl wp.heap.size wp).alloc (Nat.le_refl _) (.cells #[.slice Aa pn ca] 43))
        have hbA := (Below.refl wp.heap.size wp).alloc (Nat.le_refl _) (.cells #[.slice Aa pn ca] 43)
        have HEND : Hid (GoesI w w1.heap.size gs gen h s w.heap.size n j0 ls (.pointer (some ⟨gr3, 0, none⟩)) (.slice (some ⟨g6, 0, none⟩) (dn + 1) k6) (.int .i64 ((k + 1 : Nat) : Int)) w6) := Lib.hid (by
          have hkx : ∀ (j : Nat) (o : Obj), wp.heap[j]? = some o → (∀ cs, o ≠ .cells cs 43 (0, 0)) → w6.heap[j]? = some o := fun j o hj hne => by
            refine (hg6.block j (Nat.lt_of_lt_of_le (lt_of_heap hj) (by simp)) (fun e => ?_)).trans ((hbA.block j (lt_of_heap hj)).trans hj)
            obtain ⟨cs, hcs⟩ := row_heap hoA e.symm
            rw [hbA.block j (lt_of_heap hj), hj] at hcs
            injection hcs with hcs
            exact hne cs hcs
          have hkt : ∀ (j : Nat) (cs : Array Value) (t : TypeId), wp.heap[j]? = some (.cells cs t (0, 0)) → t ≠ 43 → w6.heap[j]? = some (.cells cs t (0, 0)) := fun j cs t hj ht => hkx j _ hj (fun cs' e => by injection e with _ e _; exact ht e)
          have h6 := rows3_more hg6 hown6 HDN.out HV1.out HV2.out HV3.out (Below.refl w1.heap.size wp) hbsp hbA (HT.out.keep (.of_below hbA))
          have hL := HL.out
          have e1 : k * 2048 + 2048 = (k + 1) * 2048 := by omega
          rw [← HREC.out, e1] at hL
          refine ⟨k + 1, _, _, _, _, _, _, _, _, by omega, by omega, rfl, rfl, ⟨hL.disk.kty (fun j cs t hj ht => hkt j cs t hj (by rcases ht with rfl | rfl | rfl | rfl <;> decide)), ⟨hkt _ _ _ hL.reel.st (by decide), hL.reel.pages.kty (fun j cs t hj ht => hkt j cs t hj (by rcases ht with rfl | rfl <;> decide)), hL.reel.long⟩, hL.clean, hL.hs, hL.h2, hL.hg, hL.hr, hL.hp, hL.hn, hL.o1, hL.o2, hL.o3, hL.o4, hL.o5, hL.o6, Nat.le_trans hL.hb h6.2.size⟩, HDUR.out, fun h => absurd HKJ.out (by omega), hvb, by rw [HREC.out]; exact h6.1, hkx _ _ HBX.out (fun cs e => by injection e with _ e _; revert e; decide), HBW.out.trans (h6.2.mono (by omega))⟩)
        clear hown6 hg6 hat6 hoA hbA
        go_wp2
        go_roundw
        case rel => exact HEND.out
        case measure => simp [intOf]; omega
      · have k3 : ((k : Int) == (j0 : Int)) = false := by rw [beq_eq_false_iff_ne]; omega
        have HSJ := Lib.hid hsj
        clear hkj hsj
        go_wp2_with (first
          | (go_at_call 29; (with_reducible refine (HCU.out).mono ?_); rintro e wa ⟨Aa, ca, rfl, hOa, hba⟩; go_loud (
              have HT := Lib.hid (TBytes.of_own hOa HPS.out);
              have HL := Lib.hid (HSS.out.below hba);
              have HR3 := Lib.hid (HRR.out.below hba);
              have HBX : Hid (crownBox wa w.heap.size gen h s) := Lib.hid ((hba.block w.heap.size (by omega)).trans HX.out);
              have HBW := Lib.hid (HBb.out.trans (hba.mono HBb.out.size));
              clear HCU hOa hba))
          | (go_at_call 21; (with_reducible refine (KLAY.out _ _ _ _ (HT.out.b.along ((Below.refl _ _).alloc (Nat.le_refl _) _)) (Go.heap_alloc_new _ _)).mono ?_); rintro e wl ⟨Al, cl, rfl, hbl⟩; go_loud (
              have hbl2 := ((Below.refl _ _).alloc (Nat.le_refl _) _).trans (hbl.mono (by simp));
              have HT := Lib.hid (HT.out.keep (.of_below hbl2));
              have HR3 := Lib.hid (HR3.out.below hbl2);
              have HBX : Hid (crownBox wl w.heap.size gen h s) := Lib.hid ((hbl2.block w.heap.size (by have := HL.out.hb; omega)).trans HBX.out);
              have HL := Lib.hid (HL.out.below hbl2);
              have HRM := Lib.hid (room_any HL.out.reel.w (by decide) HL.out.size_le);
              rw [← HROOM.out] at HRM;
              have HBW := Lib.hid (HBW.out.trans (hbl2.mono HBW.out.size));
              clear hbl hbl2))
          | (go_at_call 18; (with_reducible refine (HRM.out).mono ?_); rintro e wm ⟨rfl, hbm⟩; go_loud (
              have HT := Lib.hid (HT.out.keep (.of_below hbm));
              have HR3 := Lib.hid (HR3.out.below hbm);
              have HBX : Hid (crownBox wm w.heap.size gen h s) := Lib.hid ((hbm.block w.heap.size (by have := HL.out.hb; omega)).trans HBX.out);
              have HL := Lib.hid (HL.out.below hbm);
              have HAP := Lib.hid (append_logS HL.out (by omega) _ pn _ p HT.out.b (by omega) HFIT.out);
              have HBW := Lib.hid (HBW.out.trans (hbm.mono HBW.out.size));
              clear HRM hbm))
          | (go_at_call 20; (with_reducible refine (HAP.out).mono ?_); rintro e wp ⟨rfl, ⟨pp, bp, pvp, psp, nwp, hLp, hqp⟩, hKp⟩; go_loud (
              have HT := Lib.hid (HT.out.keep (.of_kept hKp));
              have hR3 := HR3.out.kept hKp;
              obtain ⟨vs, hv1, hv2, hv3⟩ := hR3;
              rw [← HDN.out] at hv2;
              have HV1 := Lib.hid hv1;
              have HV2 := Lib.hid hv2;
              have HV3 := Lib.hid hv3;
              have HBX : Hid (crownBox wp w.heap.size gen h s) := Lib.hid (hKp.ty _ _ HBX.out noLog_crown);
              have HBW := Lib.hid (HBW.out.trans (hKp.below.mono (by omega)));
              have HL := Lib.hid hLp;
              have HQ := Lib.hid hqp;
              have hbsp := hLp.hb;
              clear HAP hLp hKp hv1 hv2 hv3 hqp))
          | (at_builtin; go_loud (refine wpList_append_lies _ (by rfl) (.tmp 103) (.tmp 105) 34 (by rfl) w1.heap.size 43 i0 (.slice none 0 0) 1 24 Try.underlying34 HI.out H0.out H1.out H2.out (by rfl) (by omega) (.slice Ao dn co) dn _ (by rfl) (ownsRow_below HV2.out ((Below.refl _ _).alloc (Nat.le_refl _) _)) ⟨wp.heap.size, 0, none⟩ 1 1 [.slice Aa pn ca] (by rfl) (by rfl) (World.news_of_block (heap_new_at rfl)) (by intro u hu; simp at hu; rcases hu with rfl; rfl) (by omega) (by unfold maxLen; omega) (by omega) (Nat.le_trans hbsp (by simp)) _ rfl ?_; intro g6 k6 w6 hown6 hg6 hat6 hlt6)))
        have hoA := ownsRow_below HV2.out ((Below.refl wp.heap.size wp).alloc (Nat.le_refl _) (.cells #[.slice Aa pn ca] 43))
        have hbA := (Below.refl wp.heap.size wp).alloc (Nat.le_refl _) (.cells #[.slice Aa pn ca] 43)
        have HEND : Hid (GoesI w w1.heap.size gs gen h s w.heap.size n j0 ls (.pointer (some ⟨gr2, 0, none⟩)) (.slice (some ⟨g6, 0, none⟩) (dn + 1) k6) (.int .i64 ((k + 1 : Nat) : Int)) w6) := Lib.hid (by
          have hkx : ∀ (j : Nat) (o : Obj), wp.heap[j]? = some o → (∀ cs, o ≠ .cells cs 43 (0, 0)) → w6.heap[j]? = some o := fun j o hj hne => by
            refine (hg6.block j (Nat.lt_of_lt_of_le (lt_of_heap hj) (by simp)) (fun e => ?_)).trans ((hbA.block j (lt_of_heap hj)).trans hj)
            obtain ⟨cs, hcs⟩ := row_heap hoA e.symm
            rw [hbA.block j (lt_of_heap hj), hj] at hcs
            injection hcs with hcs
            exact hne cs hcs
          have hkt : ∀ (j : Nat) (cs : Array Value) (t : TypeId), wp.heap[j]? = some (.cells cs t (0, 0)) → t ≠ 43 → w6.heap[j]? = some (.cells cs t (0, 0)) := fun j cs t hj ht => hkx j _ hj (fun cs' e => by injection e with _ e _; exact ht e)
          have h6 := rows3_more hg6 hown6 HDN.out HV1.out HV2.out HV3.out (Below.refl w1.heap.size wp) hbsp hbA (HT.out.keep (.of_below hbA))
          have hL := HL.out
          have e1 : k * 2048 + 2048 = (k + 1) * 2048 := by omega
          rw [← HREC.out, e1] at hL
          refine ⟨k + 1, _, _, _, _, _, _, _, _, by omega, by omega, rfl, rfl, ⟨hL.disk.kty (fun j cs t hj ht => hkt j cs t hj (by rcases ht with rfl | rfl | rfl | rfl <;> decide)), ⟨hkt _ _ _ hL.reel.st (by decide), hL.reel.pages.kty (fun j cs t hj ht => hkt j cs t hj (by rcases ht with rfl | rfl <;> decide)), hL.reel.long⟩, hL.clean, hL.hs, hL.h2, hL.hg, hL.hr, hL.hp, hL.hn, hL.o1, hL.o2, hL.o3, hL.o4, hL.o5, hL.o6, Nat.le_trans hL.hb h6.2.size⟩, HDUR.out, fun h => ⟨HSJ.out h, fun _ => by obtain ⟨q, hq, e⟩ := HQ.out; exact ⟨q, hq, e.trans (HSJ.out h)⟩⟩, hser2, by rw [HREC.out]; exact h6.1, hkx _ _ HBX.out (fun cs e => by injection e with _ e _; revert e; decide), HBW.out.trans (h6.2.mono (by omega))⟩)
        clear hown6 hg6 hat6 hoA hbA
        go_wp2
        go_roundw
        case rel => exact HEND.out
        case measure => simp [intOf]; omega
    · have hex : k = n ∨ (k < n ∧ k = 12) := by omega
      obtain ⟨rs, hrs⟩ : ∃ x, x = cut7 ls k := ⟨_, rfl⟩
      have hrl : rs.length ≤ maxLen := by rw [hrs]; have := cut7_len ls k; unfold maxLen; omega
      rw [← hrs] at hS hR
      have hparts := hR.two.parts (Nat.le_refl _) hrl
      obtain ⟨Ao, co, rfl⟩ := hR.len
      have HCAR : Hid (Car wr [(.slice Ao rs.length co, rs)] []) := Lib.hid ⟨fun p hp => by rw [List.mem_singleton] at hp; rw [hp]; exact hparts, fun p hp => by cases hp⟩
      obtain ⟨rn, hrn⟩ : ∃ x, x = rs.length := ⟨_, rfl⟩
      rw [← hrn] at HCAR ⊢
      have HRC : Hid (∀ y, Below wr.heap.size wr y → Calls Try.prog 15 #[.pointer (some ⟨gr2, 0, none⟩)] y (RecsR y rs)) := Lib.hid fun y hy => records_log ⟨_, _, _, _, hS.below hy⟩
      have HOP2 := Lib.hid (reopen_logS (s := s) hS hdur hh1 (by omega) (by omega) wr (Below.refl _ _))
      have KSR : Hid (∀ (y : World) (v u : Value) (l : List (List Nat)), Parts y y.heap.size v l → Parts y y.heap.size u l → Calls Try.prog 22 #[v, u] y fun e w' => e = .returned (.bool true) ∧ Below y.heap.size y w') := Lib.hid fun y v u l h1 h2 => (same_rows y v u _ _ h1 h2).mono fun e w' ⟨he, q, hw⟩ => by
        subst hw
        exact ⟨by rw [he, decide_eq_true rfl], below_drewN (Below.refl _ _) q⟩
      obtain ⟨u0, u1, u2⟩ := hbx.cells
      have HRL := Lib.hid hrl
      have HBb := Lib.hid hb
      have hpw := HPP.out.along hb
      rcases hex with hex | ⟨hex1, hex2⟩
      · have hnk : ¬ k < n := by omega
        clear hpw hrs hrl hS hR hparts hrn hb hdur hser hbx hex hlt hcl hbs
        go_wp2_with (first
          | (go_at_call 12; (with_reducible refine (HOP2.out).mono ?_); rintro e wo ⟨gr3, rfl, hLo, hbo⟩; go_loud (
              have HC := Lib.hid (HCAR.out.along hbo);
              have HBW := Lib.hid (HBb.out.trans (hbo.mono HBb.out.size));
              have HN0 : Hid (Below wr.heap.size wr wo) := Lib.hid hbo;
              have HN1 : Hid (Below wo.heap.size wo wo) := Lib.hid (Below.refl _ _);
              have HR2 : Hid (∀ y, Below wo.heap.size wo y → Calls Try.prog 15 #[.pointer (some ⟨gr3, 0, none⟩)] y (RecsR y rs)) := Lib.hid (fun y hy => records_log (hLo.below hy));
              have HF : Hid True := Lib.hid trivial;
              clear HOP2 hLo hbo))
          | (go_at_call 15; (with_reducible refine (HRC.out _ HN0.out).mono ?_); rintro e w5 ⟨u5, rfl, hR5, hb5⟩; go_loud (
              have HC := Lib.hid ((HC.out.along hb5).addP (hR5.parts (Nat.le_refl _) HRL.out));
              have HBW := Lib.hid (HBW.out.trans (hb5.mono HBW.out.size));
              have HN1 := Lib.hid (HN1.out.trans (hb5.mono HN1.out.size));
              clear HRC hR5 hb5))
          | (go_at_call 22; (with_reducible refine (KSR.out _ _ _ rs (Car.p HC.out _ (rs) (by simp)) (Car.p HC.out _ (rs) (by simp))).mono ?_); rintro e w6 ⟨rfl, hb6⟩; go_loud (
              have HC := Lib.hid (HC.out.along hb6);
              have HBW := Lib.hid (HBW.out.trans (hb6.mono HBW.out.size));
              have HN1 := Lib.hid (HN1.out.trans (hb6.mono HN1.out.size));
              clear hb6))
          | (go_at_call 15; (with_reducible refine (HR2.out _ HN1.out).mono ?_); rintro e w7 ⟨u7, rfl, hR7, hb7⟩; go_loud (
              have HC := Lib.hid ((HC.out.along hb7).addP (hR7.parts (Nat.le_refl _) HRL.out));
              have HBW := Lib.hid (HBW.out.trans (hb7.mono HBW.out.size));
              have HN1 := Lib.hid (HN1.out.trans (hb7.mono HN1.out.size));
              clear HR2 hR7 hb7)))
        go_ret
        exact ⟨rfl, HBW.out⟩
      · obtain ⟨⟨A', c', us, hv, hvl, hlies, hby⟩, _⟩ := hpw
        injection hv with e1 e2 e3
        subst e1
        subst e3
        clear e2
        obtain ⟨u, hu⟩ : ∃ u, us[k]? = some u := ⟨_, List.getElem?_eq_getElem (by rw [hvl, ← HNL.out]; exact hex1)⟩
        obtain ⟨ad, hA, hbb, hc⟩ := hlies k _ hu
        subst hA
        have hkge : (k : Int) ≥ 12 := by omega
        clear hrs hrl hS hR hparts hrn hb hdur hser hbx hex2 hlt hcl hbs hu hbb hlies hby hvl
        go_wp2_with (first
          | (go_at_call 12; (with_reducible refine (HOP2.out).mono ?_); rintro e wo ⟨gr3, rfl, hLo, hbo⟩; go_loud (
              have HC := Lib.hid (HCAR.out.along hbo);
              have HBW := Lib.hid (HBb.out.trans (hbo.mono HBb.out.size));
              have HN0 : Hid (Below wr.heap.size wr wo) := Lib.hid hbo;
              have HN1 : Hid (Below wo.heap.size wo wo) := Lib.hid (Below.refl _ _);
              have HR2 : Hid (∀ y, Below wo.heap.size wo y → Calls Try.prog 15 #[.pointer (some ⟨gr3, 0, none⟩)] y (RecsR y rs)) := Lib.hid (fun y hy => records_log (hLo.below hy));
              have HF : Hid True := Lib.hid trivial;
              clear HOP2 hLo hbo))
          | (go_at_call 15; (with_reducible refine (HRC.out _ HN0.out).mono ?_); rintro e w5 ⟨u5, rfl, hR5, hb5⟩; go_loud (
              have HC := Lib.hid ((HC.out.along hb5).addP (hR5.parts (Nat.le_refl _) HRL.out));
              have HBW := Lib.hid (HBW.out.trans (hb5.mono HBW.out.size));
              have HN1 := Lib.hid (HN1.out.trans (hb5.mono HN1.out.size));
              clear HRC hR5 hb5))
          | (go_at_call 22; (with_reducible refine (KSR.out _ _ _ rs (Car.p HC.out _ (rs) (by simp)) (Car.p HC.out _ (rs) (by simp))).mono ?_); rintro e w6 ⟨rfl, hb6⟩; go_loud (
              have HC := Lib.hid (HC.out.along hb6);
              have HBW := Lib.hid (HBW.out.trans (hb6.mono HBW.out.size));
              have HN1 := Lib.hid (HN1.out.trans (hb6.mono HN1.out.size));
              clear hb6))
          | (go_at_call 15; (with_reducible refine (HR2.out _ HN1.out).mono ?_); rintro e w7 ⟨u7, rfl, hR7, hb7⟩; go_loud (
              have HC := Lib.hid ((HC.out.along hb7).addP (hR7.parts (Nat.le_refl _) HRL.out));
              have HBW := Lib.hid (HBW.out.trans (hb7.mono HBW.out.size));
              have HN1 := Lib.hid (HN1.out.trans (hb7.mono HN1.out.size));
              clear HR2 hR7 hb7)))
        go_ret
        exact ⟨rfl, HBW.out⟩
end Go.Proofs.Ytalpippeelomjaa
