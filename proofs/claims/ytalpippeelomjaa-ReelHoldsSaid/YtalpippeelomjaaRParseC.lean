/- Contract: what the reference's Parse answers of any bytes. -/
import Derived.Test.YtalpippeelomjaaZ30
namespace Go.Proofs.Ytalpippeelomjaa
open Go.RowKit
set_option linter.unusedSimpArgs false
set_option linter.unusedVariables false
set_option maxRecDepth 100000 in
set_option maxHeartbeats 8000000 in
theorem refParse_form (w : World) (ad : Addr) (c L b14 : Nat) (l : List Nat) (hp : Bytes w w.heap.size (.slice (some ad) 512 c) l) (hl : l.length = 512) (hz : ¬ ∀ b ∈ l, b = 0) (hs : val (l.drop 508) = crc (l.take 508)) (hL : be ((l.drop 15).take 2) = L) (hb14 : l[14]? = some b14) (hk : b14 ≠ 0) (hlen : L ≤ 491) (hformed : ¬ Formed (l.take 508)) :
    Calls Try.prog 55 #[.slice (some ad) 512 c] w (Parsed l w) := by
  have hcap := hp.cap
  have hc8 : (8 : Int) ≤ (c : Int) := by omega
  have hc17 : (17 : Int) ≤ (c : Int) := by omega
  have hcn15 : ¬ c = 15 := by omega
  have hLs : L < 65536 := by
    have h1 := be_lt (l := (l.drop 15).take 2) (fun b hb => hp.small b (List.mem_of_mem_drop (List.mem_of_mem_take hb)))
    have h2 : ((l.drop 15).take 2).length ≤ 2 := by rw [List.length_take]; omega
    have h3 := Nat.pow_le_pow_right (n := 256) (by omega) h2
    omega
  have hb256 : b14 < 256 := hp.small b14 (List.mem_of_getElem? hb14)
  have hv8 := fun o => (value_any (w.alloc o) _ _ ((hp.along ((Below.refl w.heap.size w).alloc (Nat.le_refl _) o)).first (k := 8) (by decide)) (by rw [List.length_take]; omega))
  obtain ⟨v8, hv8e⟩ : ∃ v8, v8 = be (l.take 8) := ⟨_, rfl⟩
  rw [← hv8e] at hv8
  have HV := fun o => hide (hv8 o)
  have HP := Lib.hid hp
  have HZ := Lib.hid hz
  have HL := Lib.hid hl
  have HS := Lib.hid hs
  have hmk := run_make_512
  have hzn := zeros_new
  obtain ⟨Z, hZ⟩ : ∃ Z, Z = byt (List.replicate 512 0) := ⟨_, rfl⟩
  rw [← hZ] at hmk hzn
  have HZN := Lib.hid hzn
  have HO := fun x hx => hide (refOpen_core x (some ad) 512 508 c l (hp.along (w' := x) hx) rfl (by decide))
  rw [decide_eq_true ((rsealed_iff hl hp.small).2 hs)] at HO
  have hp15 := piece_bytes hp (k := 15) (n := 2) (by omega) (by decide)
  rw [add_lit ad 15 (by decide)] at hp15
  have HP15 := Lib.hid hp15
  have HLL := Lib.hid hL
  have HLF : Hid (lenOf (l.take 508) = L) := Lib.hid ((lenOf_be hl).trans hL)
  have HB14 := Lib.hid hb14
  have HK : Hid (kindOf (l.take 508) = b14) := Lib.hid (by unfold kindOf; rw [List.getD_eq_getElem?_getD, List.getElem?_take_of_lt (by omega), hb14]; rfl)
  have hc14 : ∀ x, Below w.heap.size w x → x.cell? (ad.add 14) = some (.int .u8 (b14 : Int)) := fun x hx => by
    obtain ⟨⟨A1, c1, hv, hlies, _, _⟩, _, _⟩ := hp
    injection hv with e1 _ e3
    subst e1 e3
    obtain ⟨ad2, e, hbl, hc⟩ := hlies 14 (.int .u8 (b14 : Int)) (by rw [byt_at, hb14]; rfl)
    injection e with e
    subst e
    exact (hx.cell (p := ad.add 14) (by rw [addr_add_block]; exact hbl)).trans hc
  rw [add_lit ad 14 (by decide)] at hc14
  have HC14 := Lib.hid hc14
  have hk1 : ((b14 : Int) == 0) = false := by rw [beq_eq_false_iff_ne]; omega
  have hk2 : ¬ (b14 : Int) = 0 := by omega
  have hlen1 : ¬ (L : Int) > 491 := by omega
  have hlen2 : (L : Int) ≤ 491 := by omega
  have hc6 : (6 : Int) ≤ (c : Int) := by omega
  have hc10 : (10 : Int) ≤ (c : Int) := by omega
  have hc14i : (14 : Int) ≤ (c : Int) := by omega
  have hc512 : (512 : Int) ≤ (c : Int) := by omega
  have hcn2 : ¬ c = 2 := by omega
  have hcn6 : ¬ c = 6 := by omega
  have hcn10 : ¬ c = 10 := by omega
  have hcn17 : ¬ c = 17 := by omega
  have hw4 : ∀ k, be ((l.drop k).take 4) < 4294967296 := fun k => by
    have h1 := be_lt (l := (l.drop k).take 4) (fun b hb => hp.small b (List.mem_of_mem_drop (List.mem_of_mem_take hb)))
    have h2 : ((l.drop k).take 4).length ≤ 4 := by rw [List.length_take]; omega
    have h3 := Nat.pow_le_pow_right (n := 256) (by omega) h2
    omega
  obtain ⟨G, hG⟩ : ∃ G, be ((l.drop 2).take 4) = G := ⟨_, rfl⟩
  obtain ⟨S, hS4⟩ : ∃ S, be ((l.drop 6).take 4) = S := ⟨_, rfl⟩
  obtain ⟨N, hN⟩ : ∃ N, be ((l.drop 10).take 4) = N := ⟨_, rfl⟩
  have hGb : G < 4294967296 := hG ▸ hw4 2
  have hSb : S < 4294967296 := hS4 ▸ hw4 6
  have hNb : N < 4294967296 := hN ▸ hw4 10
  have hp2 := piece_bytes hp (k := 2) (n := 4) (by omega) (by decide)
  have hp6 := piece_bytes hp (k := 6) (n := 4) (by omega) (by decide)
  have hp10 := piece_bytes hp (k := 10) (n := 4) (by omega) (by decide)
  have hp17 := piece_bytes hp (k := 17) (n := 495) (by omega) (by decide)
  rw [add_lit ad 2 (by decide)] at hp2
  rw [add_lit ad 6 (by decide)] at hp6
  rw [add_lit ad 10 (by decide)] at hp10
  rw [add_lit ad 17 (by decide)] at hp17
  have hv2 := fun x (hx : Below w.heap.size w x) => value_any x _ _ (hp2 x hx) (by rw [List.length_take]; omega)
  have hv6 := fun x (hx : Below w.heap.size w x) => value_any x _ _ (hp6 x hx) (by rw [List.length_take]; omega)
  have hv10 := fun x (hx : Below w.heap.size w x) => value_any x _ _ (hp10 x hx) (by rw [List.length_take]; omega)
  simp only [hG] at hv2
  simp only [hS4] at hv6
  simp only [hN] at hv10
  have HV2 := fun x (hx : Below w.heap.size w x) => hide (hv2 x hx)
  have HV6 := fun x (hx : Below w.heap.size w x) => hide (hv6 x hx)
  have HV10 := fun x (hx : Below w.heap.size w x) => hide (hv10 x hx)
  have HP17 := Lib.hid hp17
  have HG := Lib.hid hG
  have HS4 := Lib.hid hS4
  have HN := Lib.hid hN
  obtain ⟨D, hD⟩ : ∃ D, D = ((l.drop 17).take 495).take L := ⟨_, rfl⟩
  have hDs : ∀ b ∈ D, b < 256 := by rw [hD]; exact fun b hb => hp.small b (List.mem_of_mem_drop (List.mem_of_mem_take (List.mem_of_mem_take hb)))
  have hDl : D.length ≤ 491 := by rw [hD, List.length_take]; omega
  have hDe : ¬ page G S N b14 D = l := fun h => hformed (page_iff hDl (by omega) h)
  have HD := Lib.hid hD
  have HDS := Lib.hid hDs
  have HDL := Lib.hid hDl
  have HDE := Lib.hid hDe
  have HERR := Lib.hid (err_form hl hz hs hformed)
  clear hformed hw4 hG hS4 hN hp2 hp6 hp10 hp17 hv2 hv6 hv10 hD hDs hDl hDe hk
  clear hZ hp hl hz hzn hv8 hv8e hs hL hb14 hc14 hp15
  by_cases h80 : v8 = 0
  · have h81 : ((v8 : Int) == 0) = true := by rw [h80]; rfl
    have h82 : (v8 : Int) = 0 := by omega
    clear h80
    go_enter Try.func55, Try.ntmps55
    go_wp2_with (first
      | (go_at_call 39; (with_reducible refine (same_any _ _ _ l (List.replicate 512 0) (go_alloc (go_alloc HP.out _) _) (HZN.out _ _ (by simp))).mono ?_); rintro e w2 ⟨rfl, nq, rfl⟩; go_loud (
         obtain ⟨d, hd, hdt⟩ : ∃ d, d = decide (l = List.replicate 512 0) ∧ d = false := ⟨_, rfl, decide_eq_false (fun h => HZ.out ((zeros_iff HL.out).1 h))⟩;
         rw [← hd, hdt];
         have hb2 := below_drewN ((Below.refl (w.alloc (.cells #[.int .u32 0, .int .u32 0, .int .u32 0, .int .u8 0, .slice none 0 0] 56)).heap.size _).alloc (Nat.le_refl _) (.cells Z.toArray 5)) nq;
         have g2 := (hb2.block w.heap.size (by simp)).trans (Go.heap_alloc_new w _);
         have HG2 := Lib.hid g2;
         have HB2 := Lib.hid (((Below.refl w.heap.size w).alloc (Nat.le_refl _) (.cells #[.int .u32 0, .int .u32 0, .int .u32 0, .int .u8 0, .slice none 0 0] 56)).trans (hb2.mono (by simp)));
         clear hd hdt hb2 g2))
      | (go_at_call 81; (with_reducible refine (unhide (HO _ HB2.out)).mono ?_); rintro e w3 ⟨rfl, hb3⟩; go_loud (
         have g3 := (hb3.block _ (Array.getElem?_eq_some_iff.1 HG2.out).1).trans HG2.out;
         have hb03 := HB2.out.trans (hb3.mono HB2.out.size);
         have HG3 := Lib.hid g3;
         have HB3 := Lib.hid hb03;
         have hk14 := HC14.out w3 hb03;
         have hv15 := value_any w3 _ _ (HP15.out w3 hb03) (by rw [List.length_take]; omega);
         rw [HLL.out] at hv15;
         have HV15 := hide hv15;
         obtain ⟨k0, k1, k2, k3, k4, f0, f1, f2, f3, f4⟩ := rcell_facts g3;
         clear g3 hb3 hv15 hb03))
      | (go_at_call 56; (first | (with_reducible refine (unhide (HV _)).mono ?_) | (with_reducible refine (unhide HV15).mono ?_)); rintro e w1 ⟨rfl, rfl⟩)
)
    have HV2b := fun x (hx : Below w3.heap.size w3 x) => HV2 x (HB3.out.trans (hx.mono HB3.out.size))
    have HV6b := fun x (hx : Below w3.heap.size w3 x) => HV6 x (HB3.out.trans (hx.mono HB3.out.size))
    have HV10b := fun x (hx : Below w3.heap.size w3 x) => HV10 x (HB3.out.trans (hx.mono HB3.out.size))
    have HP17b := Lib.hid (fun x (hx : Below w3.heap.size w3 x) => HP17.out x (HB3.out.trans (hx.mono HB3.out.size)))
    have HS3 := Lib.hid (fun (x : World) (hx : Below w3.heap.size w3 x) => (show Below w3.heap.size w3 x ∧ x.cell? ⟨ad.block, ad.off + 14, none⟩ = some (.int .u8 (b14 : Int)) from ⟨hx, HC14.out x (HB3.out.trans (hx.mono HB3.out.size))⟩))
    have HW3 : Hid (w.heap.size < w3.heap.size) := Lib.hid (Array.getElem?_eq_some_iff.1 HG3.out).1
    clear HV2 HV6 HV10 HP17 HV HO HP15 hmk HZN HV15 k0 k1 k2 k3 k4 f0 f1 f2 f3 f4
    go_cut [5] (fun v x => PAt w G S N b14 D w3 v x)
    case first =>
      go_region_held3 (fun x => Below w3.heap.size w3 x ∧ x.cell? ⟨ad.block, ad.off + 14, none⟩ = some (.int .u8 (b14 : Int)))
        ((refine HS3.out _ ?_; repeat (with_reducible (first | exact Below.refl _ _ | assumption | refine ride_alloc ?_ _ | refine ride_drew ?_ | refine ride_set ?_ (by first | exact Nat.le_refl _ | exact Below.size (by assumption)) | refine ride_call (by assumption) ?_))))
        (first
          | (go_at_call 56; (first | (with_reducible refine (unhide (HV2b _ (by repeat (with_reducible (first | exact Below.refl _ _ | assumption | refine ride_alloc ?_ _ | refine ride_drew ?_ | refine ride_set ?_ (by first | exact Nat.le_refl _ | exact Below.size (by assumption)) | refine ride_call (by assumption) ?_))))).mono ?_) | (with_reducible refine (unhide (HV6b _ (by repeat (with_reducible (first | exact Below.refl _ _ | assumption | refine ride_alloc ?_ _ | refine ride_drew ?_ | refine ride_set ?_ (by first | exact Nat.le_refl _ | exact Below.size (by assumption)) | refine ride_call (by assumption) ?_))))).mono ?_) | (with_reducible refine (unhide (HV10b _ (by repeat (with_reducible (first | exact Below.refl _ _ | assumption | refine ride_alloc ?_ _ | refine ride_drew ?_ | refine ride_set ?_ (by first | exact Nat.le_refl _ | exact Below.size (by assumption)) | refine ride_call (by assumption) ?_))))).mono ?_)); rintro e w' ⟨rfl, rfl⟩)
          | (go_at_call 29; (with_reducible refine (cut_mine _ _ _ L (L : Int) rfl (HP17b.out _ (by repeat (with_reducible (first | exact Below.refl _ _ | assumption | refine ride_alloc ?_ _ | refine ride_drew ?_ | refine ride_set ?_ (by first | exact Nat.le_refl _ | exact Below.size (by assumption)) | refine ride_call (by assumption) ?_)))) (by omega)).mono ?_); rintro e w9 ⟨A9, n9, c9, rfl, hM9, hb9⟩; obtain ⟨hcb, hfb⟩ := bcell9 hb9))
      all_goals (try clear HV2b HV6b HV10b HP17b HS3)
      all_goals go_wp2_with fail
      all_goals go_meet
      all_goals rw [u32_id hGb, u32_id hSb, u32_id hNb]
      all_goals clear hcb hfb
      all_goals (first
        | (have t2 := pat_new (G := G) (S := S) (N := N) (K := b14) (w9 := w9) (n := n9) (c := c9) (A := A9) (D := D) (D2 := List.take L (List.take 495 (List.drop 17 l))) HD.out HB3.out HW3.out (by repeat (with_reducible (first | exact Below.refl _ _ | assumption | refine ride_alloc ?_ _ | refine ride_drew ?_ | refine ride_set ?_ (by first | exact Nat.le_refl _ | exact Below.size (by assumption)) | refine ride_call (by assumption) ?_))) hM9 (by simp); with_reducible exact t2)
        | (have t3 := pat_old (G := G) (S := S) (N := N) (K := b14) (w9 := w9) (n := n9) (c := c9) (g := w3.heap.size) (A := A9) (D := D) (D2 := List.take L (List.take 495 (List.drop 17 l))) HD.out HB3.out HW3.out (by repeat (with_reducible (first | exact Below.refl _ _ | assumption | refine ride_alloc ?_ _ | refine ride_drew ?_ | refine ride_set ?_ (by first | exact Nat.le_refl _ | exact Below.size (by assumption)) | refine ride_call (by assumption) ?_))) hb9 hM9 (by first | exact Go.heap_alloc_new _ _ | exact new_drew _ _ _ rfl | exact new_drew _ _ _ (by simp) | exact row_at _ _ _ (by simp)) (by simp) (by simp); with_reducible exact t3))
    case rest =>
      obtain ⟨g5, A9, n9, c9, rfl, hg5, hgw, hM9, hB9, hb3⟩ := hcut
      clear HV2b HV6b HV10b HP17b HS3 HC14
      have hzr := (hb3.block _ HW3.out).trans HG3.out
      obtain ⟨p0, p1, p2, p3, p4⟩ := rbox_facts hg5
      have HG5 := Lib.hid hg5
      have HZR := Lib.hid hzr
      have HM9 := Lib.hid hM9
      have HB9 := Lib.hid hB9
      have hlt5 := (Array.getElem?_eq_some_iff.1 hg5).1
      have hltz := (Array.getElem?_eq_some_iff.1 hzr).1
      obtain ⟨hn9, hn491⟩ : n9 = D.length ∧ n9 ≤ 491 := ⟨hM9.len, by have := hM9.len; have := HDL.out; omega⟩
      have HN9 := Lib.hid hn9
      clear hg5 hzr hM9 hB9 hb3 hn9
      go_wp2_with (first
        | (go_at_call 30; (with_reducible refine (refPage_any _ G S N b14 A9 n9 c9 D hGb hSb hNb hb256 HM9.out.bytes hn491 HN9.out HDS.out).mono ?_); rintro e w10 ⟨A10, n10, c10, rfl, hM10, hb10⟩; go_loud (
           have hsame := same_any w10 (.slice A10 n10 c10) (.slice (some ad) 512 c) (page G S N b14 D) l hM10.bytes (HP.out.along (HB9.out.trans (hb10.mono HB9.out.size)));
           rw [decide_eq_false HDE.out] at hsame;
           have HSM := hide hsame;
           have HG10 := Lib.hid ((hb10.block _ hlt5).trans HG5.out);
           have HZ10 := Lib.hid ((hb10.block _ hltz).trans HZR.out);
           have HM9b := Lib.hid (HM9.out.below hb10);
           have HB10 := Lib.hid (HB9.out.trans (hb10.mono HB9.out.size));
           clear hsame hb10))
        | (go_at_call 39; (with_reducible refine (unhide HSM).mono ?_); rintro e w11 ⟨rfl, nq, rfl⟩; go_loud (
           have hg11 : (w10.drewN nq).heap[g5]? = _ := HG10.out;
           have hz11 : (w10.drewN nq).heap[w.heap.size]? = _ := HZ10.out;
           obtain ⟨q0, q1, q2, q3, q4⟩ := rbox_facts hg11;
           obtain ⟨k0, k1, k2, k3, k4, f0, f1, f2, f3, f4⟩ := rcell_facts hz11;
           have HZ11 := Lib.hid hz11;
           have HM11 := Lib.hid (HM9b.out.below (below_drewN (Below.refl _ _) nq));
           have HB11 := Lib.hid (below_drewN HB10.out nq);
           clear hg11 hz11)))
      exact rpage_ret rfl rfl rfl (rset_five HZ11.out) rfl (parsed_bad HERR.out (by decide) rfl (below_five HB11.out (Nat.le_refl _)))
  · have h81 : ((v8 : Int) == 0) = false := by rw [beq_eq_false_iff_ne]; omega
    have h82 : ¬ (v8 : Int) = 0 := by omega
    have HB2 := Lib.hid ((Below.refl w.heap.size w).alloc (Nat.le_refl _) (.cells #[.int .u32 0, .int .u32 0, .int .u32 0, .int .u8 0, .slice none 0 0] 56))
    have HG2 := Lib.hid (Go.heap_alloc_new w (.cells #[.int .u32 0, .int .u32 0, .int .u32 0, .int .u8 0, .slice none 0 0] 56))
    clear h80
    go_enter Try.func55, Try.ntmps55
    go_wp2_with (first
      | (go_at_call 81; (with_reducible refine (unhide (HO _ HB2.out)).mono ?_); rintro e w3 ⟨rfl, hb3⟩; go_loud (
         have g3 := (hb3.block _ (Array.getElem?_eq_some_iff.1 HG2.out).1).trans HG2.out;
         have hb03 := HB2.out.trans (hb3.mono HB2.out.size);
         have HG3 := Lib.hid g3;
         have HB3 := Lib.hid hb03;
         have hk14 := HC14.out w3 hb03;
         have hv15 := value_any w3 _ _ (HP15.out w3 hb03) (by rw [List.length_take]; omega);
         rw [HLL.out] at hv15;
         have HV15 := hide hv15;
         obtain ⟨k0, k1, k2, k3, k4, f0, f1, f2, f3, f4⟩ := rcell_facts g3;
         clear g3 hb3 hv15 hb03))
      | (go_at_call 56; (first | (with_reducible refine (unhide (HV _)).mono ?_) | (with_reducible refine (unhide HV15).mono ?_)); rintro e w1 ⟨rfl, rfl⟩)
)
    have HV2b := fun x (hx : Below w3.heap.size w3 x) => HV2 x (HB3.out.trans (hx.mono HB3.out.size))
    have HV6b := fun x (hx : Below w3.heap.size w3 x) => HV6 x (HB3.out.trans (hx.mono HB3.out.size))
    have HV10b := fun x (hx : Below w3.heap.size w3 x) => HV10 x (HB3.out.trans (hx.mono HB3.out.size))
    have HP17b := Lib.hid (fun x (hx : Below w3.heap.size w3 x) => HP17.out x (HB3.out.trans (hx.mono HB3.out.size)))
    have HS3 := Lib.hid (fun (x : World) (hx : Below w3.heap.size w3 x) => (show Below w3.heap.size w3 x ∧ x.cell? ⟨ad.block, ad.off + 14, none⟩ = some (.int .u8 (b14 : Int)) from ⟨hx, HC14.out x (HB3.out.trans (hx.mono HB3.out.size))⟩))
    have HW3 : Hid (w.heap.size < w3.heap.size) := Lib.hid (Array.getElem?_eq_some_iff.1 HG3.out).1
    clear HV2 HV6 HV10 HP17 HV HO HP15 hmk HZN HV15 k0 k1 k2 k3 k4 f0 f1 f2 f3 f4
    go_cut [5] (fun v x => PAt w G S N b14 D w3 v x)
    case first =>
      go_region_held3 (fun x => Below w3.heap.size w3 x ∧ x.cell? ⟨ad.block, ad.off + 14, none⟩ = some (.int .u8 (b14 : Int)))
        ((refine HS3.out _ ?_; repeat (with_reducible (first | exact Below.refl _ _ | assumption | refine ride_alloc ?_ _ | refine ride_drew ?_ | refine ride_set ?_ (by first | exact Nat.le_refl _ | exact Below.size (by assumption)) | refine ride_call (by assumption) ?_))))
        (first
          | (go_at_call 56; (first | (with_reducible refine (unhide (HV2b _ (by repeat (with_reducible (first | exact Below.refl _ _ | assumption | refine ride_alloc ?_ _ | refine ride_drew ?_ | refine ride_set ?_ (by first | exact Nat.le_refl _ | exact Below.size (by assumption)) | refine ride_call (by assumption) ?_))))).mono ?_) | (with_reducible refine (unhide (HV6b _ (by repeat (with_reducible (first | exact Below.refl _ _ | assumption | refine ride_alloc ?_ _ | refine ride_drew ?_ | refine ride_set ?_ (by first | exact Nat.le_refl _ | exact Below.size (by assumption)) | refine ride_call (by assumption) ?_))))).mono ?_) | (with_reducible refine (unhide (HV10b _ (by repeat (with_reducible (first | exact Below.refl _ _ | assumption | refine ride_alloc ?_ _ | refine ride_drew ?_ | refine ride_set ?_ (by first | exact Nat.le_refl _ | exact Below.size (by assumption)) | refine ride_call (by assumption) ?_))))).mono ?_)); rintro e w' ⟨rfl, rfl⟩)
          | (go_at_call 29; (with_reducible refine (cut_mine _ _ _ L (L : Int) rfl (HP17b.out _ (by repeat (with_reducible (first | exact Below.refl _ _ | assumption | refine ride_alloc ?_ _ | refine ride_drew ?_ | refine ride_set ?_ (by first | exact Nat.le_refl _ | exact Below.size (by assumption)) | refine ride_call (by assumption) ?_)))) (by omega)).mono ?_); rintro e w9 ⟨A9, n9, c9, rfl, hM9, hb9⟩; obtain ⟨hcb, hfb⟩ := bcell9 hb9))
      all_goals (try clear HV2b HV6b HV10b HP17b HS3)
      all_goals go_wp2_with fail
      all_goals go_meet
      all_goals rw [u32_id hGb, u32_id hSb, u32_id hNb]
      all_goals clear hcb hfb
      all_goals (first
        | (have t2 := pat_new (G := G) (S := S) (N := N) (K := b14) (w9 := w9) (n := n9) (c := c9) (A := A9) (D := D) (D2 := List.take L (List.take 495 (List.drop 17 l))) HD.out HB3.out HW3.out (by repeat (with_reducible (first | exact Below.refl _ _ | assumption | refine ride_alloc ?_ _ | refine ride_drew ?_ | refine ride_set ?_ (by first | exact Nat.le_refl _ | exact Below.size (by assumption)) | refine ride_call (by assumption) ?_))) hM9 (by simp); with_reducible exact t2)
        | (have t3 := pat_old (G := G) (S := S) (N := N) (K := b14) (w9 := w9) (n := n9) (c := c9) (g := w3.heap.size) (A := A9) (D := D) (D2 := List.take L (List.take 495 (List.drop 17 l))) HD.out HB3.out HW3.out (by repeat (with_reducible (first | exact Below.refl _ _ | assumption | refine ride_alloc ?_ _ | refine ride_drew ?_ | refine ride_set ?_ (by first | exact Nat.le_refl _ | exact Below.size (by assumption)) | refine ride_call (by assumption) ?_))) hb9 hM9 (by first | exact Go.heap_alloc_new _ _ | exact new_drew _ _ _ rfl | exact new_drew _ _ _ (by simp) | exact row_at _ _ _ (by simp)) (by simp) (by simp); with_reducible exact t3))
    case rest =>
      obtain ⟨g5, A9, n9, c9, rfl, hg5, hgw, hM9, hB9, hb3⟩ := hcut
      clear HV2b HV6b HV10b HP17b HS3 HC14
      have hzr := (hb3.block _ HW3.out).trans HG3.out
      obtain ⟨p0, p1, p2, p3, p4⟩ := rbox_facts hg5
      have HG5 := Lib.hid hg5
      have HZR := Lib.hid hzr
      have HM9 := Lib.hid hM9
      have HB9 := Lib.hid hB9
      have hlt5 := (Array.getElem?_eq_some_iff.1 hg5).1
      have hltz := (Array.getElem?_eq_some_iff.1 hzr).1
      obtain ⟨hn9, hn491⟩ : n9 = D.length ∧ n9 ≤ 491 := ⟨hM9.len, by have := hM9.len; have := HDL.out; omega⟩
      have HN9 := Lib.hid hn9
      clear hg5 hzr hM9 hB9 hb3 hn9
      go_wp2_with (first
        | (go_at_call 30; (with_reducible refine (refPage_any _ G S N b14 A9 n9 c9 D hGb hSb hNb hb256 HM9.out.bytes hn491 HN9.out HDS.out).mono ?_); rintro e w10 ⟨A10, n10, c10, rfl, hM10, hb10⟩; go_loud (
           have hsame := same_any w10 (.slice A10 n10 c10) (.slice (some ad) 512 c) (page G S N b14 D) l hM10.bytes (HP.out.along (HB9.out.trans (hb10.mono HB9.out.size)));
           rw [decide_eq_false HDE.out] at hsame;
           have HSM := hide hsame;
           have HG10 := Lib.hid ((hb10.block _ hlt5).trans HG5.out);
           have HZ10 := Lib.hid ((hb10.block _ hltz).trans HZR.out);
           have HM9b := Lib.hid (HM9.out.below hb10);
           have HB10 := Lib.hid (HB9.out.trans (hb10.mono HB9.out.size));
           clear hsame hb10))
        | (go_at_call 39; (with_reducible refine (unhide HSM).mono ?_); rintro e w11 ⟨rfl, nq, rfl⟩; go_loud (
           have hg11 : (w10.drewN nq).heap[g5]? = _ := HG10.out;
           have hz11 : (w10.drewN nq).heap[w.heap.size]? = _ := HZ10.out;
           obtain ⟨q0, q1, q2, q3, q4⟩ := rbox_facts hg11;
           obtain ⟨k0, k1, k2, k3, k4, f0, f1, f2, f3, f4⟩ := rcell_facts hz11;
           have HZ11 := Lib.hid hz11;
           have HM11 := Lib.hid (HM9b.out.below (below_drewN (Below.refl _ _) nq));
           have HB11 := Lib.hid (below_drewN HB10.out nq);
           clear hg11 hz11)))
      exact rpage_ret rfl rfl rfl (rset_five HZ11.out) rfl (parsed_bad HERR.out (by decide) rfl (below_five HB11.out (Nat.le_refl _)))
theorem refParse_all (w : World) (A : Option Addr) (n c : Nat) (l : List Nat) (hp : Bytes w w.heap.size (.slice A n c) l) :
    Calls Try.prog 55 #[.slice A n c] w (Parsed l w) := by
  have hn : n = l.length := by
    obtain ⟨⟨A1, c1, hv, _⟩, _, _⟩ := hp
    injection hv with _ h _
  by_cases h : n = 512
  · subst h
    by_cases hz : ∀ b ∈ l, b = 0
    · exact refParse_blank w A c l hp hn.symm hz
    · by_cases hs : val (l.drop 508) = crc (l.take 508)
      · obtain ⟨b14, hb14⟩ : ∃ b, l[14]? = some b := ⟨_, List.getElem?_eq_getElem (by omega)⟩
        obtain ⟨ad, rfl⟩ : ∃ ad, A = some ad := by
          obtain ⟨⟨A1, c1, hv, hlies, _, _⟩, _, _⟩ := hp
          injection hv with e1 _ _
          subst e1
          obtain ⟨ad, e, _, _⟩ := hlies 14 (.int .u8 (b14 : Int)) (by rw [byt_at, hb14]; rfl)
          exact ⟨ad, e⟩
        by_cases hk : b14 = 0
        · exact refParse_kind w ad c _ b14 l hp hn.symm hz hs rfl hb14 hk
        · by_cases hlen : be ((l.drop 15).take 2) ≤ 491
          · by_cases hf : Formed (l.take 508)
            · exact refParse_end w ad c _ b14 l hp hn.symm hz hs rfl hb14 hk hlen hf
            · exact refParse_form w ad c _ b14 l hp hn.symm hz hs rfl hb14 hk hlen hf
          · exact refParse_long w ad c _ b14 l hp hn.symm hz hs rfl hb14 hk hlen
      · exact refParse_corrupt w A c l hp hn.symm hz hs
  · exact refParse_short w A n c l h hn
end Go.Proofs.Ytalpippeelomjaa
