/- The walk of TokenSigns. -/
import Derived.Test.YtiimkodgfhkbpaaDoorKDec
namespace Go.Proofs.YtiimkodgfhkbpaaDoor
open Go.RowKit
set_option linter.unusedSimpArgs false
set_option linter.unusedVariables false
theorem lie_of {fn : Nat} {zs : List ByteArray} {n : Nat} (hn : zs.length = n) (h : ∀ w, Calls Tryd.prog fn #[] w fun e w' => ∃ v, e = .returned v ∧ SRow w w' v zs) (w : World) :
    Calls Tryd.prog fn #[] w fun e w' => ∃ b, e = .returned (.slice (some ⟨b, 0, none⟩) n n) ∧ (∀ x, Below w'.heap.size w' x → ∀ j y, zs[j]? = some y → x.cell? ⟨b, j, none⟩ = some (.string y)) ∧ Below w.heap.size w w' := by
  subst hn
  exact (h w).mono fun e w' ⟨v, he, b, hv, _, hlt, hc, hb⟩ => ⟨b, by rw [he, hv], fun x hx j y h => (hx.cell (p := ⟨b, j, none⟩) hlt).trans (hc j y h), hb⟩
theorem all_one (w : World) (s : ByteArray) (t : Tok) (hs : s.size ≤ 200000) (hv : Vr w) (h : scan (str s) 0 = some [t]) :
    Calls Tryd.prog 10 #[.string s] w fun e w' => ∃ g c, e = .returned (.tuple #[.slice (some ⟨g, 0, none⟩) 1 c, .int .i64 0]) ∧ 1 ≤ c ∧ w'.cell? ⟨g, 0, none⟩ = some (.int .u8 (t.kind : Int)) ∧ w'.cell? ⟨g, 1, none⟩ = some (.string (ba t.text)) ∧ w'.cell? ⟨g, 2, none⟩ = some (.int .i64 (t.at_ : Int)) ∧ Below w.heap.size w w' :=
  (all_good w s [t] hs hv h).mono fun e w' ⟨A, c, he, hc, hC, hb⟩ => by
    obtain ⟨g, rfl, _, a0, a1, a2⟩ := hC 0 t rfl
    exact ⟨g, c, he, hc, a0, a1, a2, hb⟩
def SgnI (W : World) (s i : Value) (w : World) : Prop := ∃ (k : Nat) (S : ByteArray), i = .int .i64 (k : Int) ∧ s = .string S ∧ S.size ≤ 2 * min k 12 ∧ (∀ b ∈ str S, sgnB b = true) ∧ Below W.heap.size W w
def CatI (W : World) (ts : List Tok) (s i : Value) (w : World) : Prop := ∃ (j : Nat) (T : ByteArray), i = .int .i64 (j : Int) ∧ s = .string T ∧ j ≤ ts.length ∧ str T = ((ts.take j).map (·.text)).flatten ∧ Below W.heap.size W w
theorem flat_take (ts : List Tok) (j : Nat) : ((ts.take j).map (·.text)).flatten.length ≤ (ts.map (·.text)).flatten.length := by
  have h : ts.map (·.text) = (ts.take j).map (·.text) ++ (ts.drop j).map (·.text) := by rw [← List.map_append, List.take_append_drop]
  rw [h, List.flatten_append, List.length_append]
  omega
set_option maxRecDepth 100000 in
set_option maxHeartbeats 4000000 in
theorem signs_core (w : World) (v : Value) (l : List Nat) (z : Int) (hp : Bytes w w.heap.size v l) (hz0 : -9223372036854775808 ≤ z) (hz1 : z ≤ 9223372036854775807) (hv : Vr w) :
    Calls Tryd.prog 6 #[v, .int .i64 z] w fun e w' => e = .returned (.bool true) ∧ Below w.heap.size w w' := by
  have HV := hide hv
  have HAW := hide (awake_true w hv)
  obtain ⟨⟨A, c, rfl, hlies, hlc, _⟩, hsm, hlong⟩ := hp
  unfold maxLen at hlong
  obtain ⟨n, hn⟩ : ∃ n, n = l.length := ⟨_, rfl⟩
  rw [← hn] at hlong hlc ⊢
  have HL := hide hlies
  have HSM := hide hsm
  have HN := hide hn
  have HRS1 := fun (x : World) => hide (lie_of (n := 22) rfl rsigns_any x)
  have HRS2 := fun (x : World) => hide (lie_of (n := 22) rfl rsigns_any x)
  obtain ⟨u, hu⟩ : ∃ u : Nat, max z 0 = (u : Int) := ⟨z.toNat, by omega⟩
  have hu2 : u ≤ 9223372036854775807 := by omega
  have HINT := fun (x : World) => hide (int_any x u hu2)
  have hnl := decL_num hu2
  have hlen19 : (decL u).length ≤ 19 := by
    have := hnl
    unfold numL at this
    simp only [Bool.and_eq_true, decide_eq_true_eq] at this
    exact this.1.1.1.2
  have hstr : str (ba (decL u)) = decL u := str_ba (decL_byte u)
  have hbs : (ba (decL u)).size = (decL u).length := by rw [← str_length, hstr]
  have HALL := fun (x : World) (hx : Vr x) => hide (all_one x (ba (decL u)) ⟨2, decL u, 0⟩ (by omega) hx (by rw [hstr]; exact scan_num hnl))
  have hrun : runL (str (ba (decL u))) = (ba (decL u)).size := by
    rw [hstr, hbs]
    exact runL_full fun j b hb => by
      have hd := decL_dig u
      unfold digL at hd
      rw [List.all_eq_true] at hd
      unfold isLD
      rw [hd b (List.mem_of_getElem? hb), Bool.or_true]
  have HVAL := fun (x : World) (hx : Vr x) => hide (value_num x (ba (decL u)) 0 (by omega) hx hrun (by rw [hstr]; exact hnl))
  have hval : valL (str (ba (decL u))) = u := by rw [hstr]; exact decL_val u
  rw [hval] at HVAL
  have HVO := fun (x : World) => hide (value_other x 1 ⟨#[55]⟩ 0 (by decide))
  simp only [show ((1 : Nat) : Int) = 1 from rfl] at HVO
  simp only [show ((2 : Nat) : Int) = 2 from rfl, show ((0 : Nat) : Int) = 0 from rfl] at HALL
  clear hv hlies hsm hn hnl hlen19 hstr hbs hrun hval
  go_enter Tryd.func6, Tryd.ntmps6
  go_wp2_with (go_at_call 8; (with_reducible refine (unhide HAW).mono ?_); rintro e w1 ⟨rfl, hb⟩; have HB1 := hide hb; clear hb)
  go_loopw [5, 22] (fun s i wr => SgnI w1 s i wr) (fun _ i _ => n - (intOf i).toNat)
  case atStart => exact ⟨0, ⟨#[]⟩, rfl, rfl, by decide, fun b hb => by simp [str] at hb, Below.refl _ _⟩
  case round =>
    obtain ⟨k, S, rfl, rfl, hS, hsg, hbr⟩ := hrel
    have HSG := hide hsg
    have HBR := hide hbr
    clear hsg hbr
    by_cases hlt : k < n
    · obtain ⟨b, hb1⟩ : ∃ b, l[k]? = some b := ⟨_, List.getElem?_eq_getElem (by rw [← unhide HN]; exact hlt)⟩
      have hb2 : b < 256 := unhide HSM b (List.mem_of_getElem? hb1)
      obtain ⟨ad, hA, hbb, hc0⟩ := unhide HL k (.int .u8 (b : Int)) (by rw [byt_at, hb1]; rfl)
      subst hA
      have hcell := ((below_on (unhide HB1) (unhide HBR)).cell (p := ad.add k) (by rw [addr_add_block]; exact hbb)).trans hc0
      clear hb1 hbb hc0
      by_cases h12 : k < 12
      · have hk12 : decide ((k : Int) < 12) = true := decide_eq_true (by omega)
        have hk12n : decide (k < 12) = true := decide_eq_true h12
        obtain ⟨r, hr⟩ : ∃ r : Nat, (b : Int) % 22 = (r : Int) := ⟨b % 22, by omega⟩
        have hr22 : r < 22 := by omega
        obtain ⟨y, hy⟩ : ∃ y, signsB[r]? = some y := ⟨_, List.getElem?_eq_getElem (by show r < 22; exact hr22)⟩
        have hy2 : str y ∈ signsL := by rw [← signsB_str]; exact List.mem_map.2 ⟨y, List.mem_of_getElem? hy, rfl⟩
        have hysz : y.size ≤ 2 := by
          have := signsL_len _ hy2
          rw [str_length] at this
          omega
        have hcat : ¬ 9223372036854775807 < S.size + y.size := by omega
        have HY := hide hy
        have HY2 := hide hy2
        clear hy hy2
        go_wp2_with (first
          | (go_at_call 23; (with_reducible refine (unhide (HRS1 _)).mono ?_); rintro e w2 ⟨b2, rfl, hc2, hb2⟩; go_loud (
              have HB2 := hide hb2;
              have HC2 := hide hc2;
              clear hb2 hc2 HRS1))
          | (go_at_call 23; (with_reducible refine (unhide (HRS2 _)).mono ?_); rintro e w3 ⟨b3, rfl, hc3, hb3⟩; go_loud (
              have HB3 := hide (below_on (unhide HB2) hb3);
              have hld := unhide HC2 w3 hb3 r y (unhide HY);
              clear hb3 hc3)))
        go_roundw
        case rel =>
          refine ⟨k + 1, S ++ y, by go_num, rfl, ?_, ?_, below_on (unhide HBR) (unhide HB3)⟩
          · rw [ByteArray.size_append]
            omega
          · intro b hb
            rw [str_append] at hb
            rcases List.mem_append.1 hb with h | h
            · exact unhide HSG b h
            · exact signs_sgn _ (unhide HY2) b h
        case measure => simp [intOf]; omega
      · have hk12 : decide ((k : Int) < 12) = false := decide_eq_false (by omega)
        have hk12n : decide (k < 12) = false := decide_eq_false h12
        go_wp2
        go_roundw
        case rel => exact ⟨k + 1, S, by go_num, rfl, by omega, unhide HSG, unhide HBR⟩
        case measure => simp [intOf]; omega
    · have hS2 : S.size ≤ 24 := by omega
      have HB2 := hide (below_on (unhide HB1) (unhide HBR))
      rcases hsc : scan (str S) 0 with _ | ts
      · have HA := hide (all_bad _ S (by omega) ((unhide HV).below (unhide HB2)) hsc)
        have HR := fun (x : World) => hide (rall_bad x S (by omega) hsc)
        clear hsc
        go_wp2_with (first
          | (go_at_call 10; (with_reducible refine (unhide HA).mono ?_); rintro e w3 ⟨rfl, hb⟩; have HB3 := hide (below_on (unhide HB2) hb); clear hb)
          | (go_at_call 11; (with_reducible refine (unhide (HR _)).mono ?_); rintro e w4 ⟨rfl, hb⟩; have HB4 := hide (below_on (unhide HB3) hb); clear hb))
        go_loopw [12, 62] (fun s i wr => CatI w4 [] s i wr) (fun _ _ _ => 0)
        case atStart => exact ⟨0, ⟨#[]⟩, rfl, rfl, by simp, rfl, Below.refl _ _⟩
        case round =>
          obtain ⟨j, X, rfl, rfl, hj, _, hbr4⟩ := hrel
          obtain rfl : j = 0 := by simpa using hj
          have HB5 := hide (below_on (unhide HB4) hbr4)
          clear hbr4
          go_wp2_with (first
            | (go_at_call 24; (with_reducible refine (unhide (HINT _)).mono ?_); rintro e w20 ⟨rfl, rfl⟩; go_loud (
                have HA6 := HALL _ ((unhide HV).below (unhide HB5))))
            | (go_at_call 10; (with_reducible refine (unhide HA6).mono ?_); rintro e w21 ⟨g6, c6, rfl, hc6, d0, d1, d2, hb6⟩; go_loud (
                have HB6 := hide (below_on (unhide HB5) hb6);
                have HVN := HVAL _ ((unhide HV).below (unhide HB6));
                clear hb6 HA6))
            | (go_at_call 12; (with_reducible refine (unhide HVN).mono ?_); rintro e w22 ⟨rfl, hb7⟩; go_loud (
                have HB7 := hide (below_on (unhide HB6) hb7);
                clear hb7 HVN))
            | (go_at_call 12; (with_reducible refine (unhide (HVO _)).mono ?_); rintro e w23 ⟨rfl, hb8⟩; go_loud (
                have HB8 := hide (below_on (unhide HB7) hb8);
                clear hb8)))
          go_ret
          exact ⟨rfl, unhide HB8⟩
      · have HA := hide (all_good _ S ts (by omega) ((unhide HV).below (unhide HB2)) hsc)
        have HR := fun (x : World) => hide (rall_good x S ts (by omega) hsc)
        obtain ⟨hk4, hfl⟩ := scan_signs ts _ _ (unhide HSG) hsc
        have HK4 := hide hk4
        have HFL := hide hfl
        have HTN := hide (toks_num ts _ _ (str_small S) hsc)
        have htl := scan_len ts _ _ hsc
        rw [str_length] at htl
        clear hsc hk4 hfl
        go_wp2_with (first
          | (go_at_call 10; (with_reducible refine (unhide HA).mono ?_); rintro e w3 ⟨A3, c3, rfl, hc3, hC3, hb⟩; go_loud (
              have HB3 := hide (below_on (unhide HB2) hb);
              have HC3 := hide hC3;
              clear hb hC3))
          | (go_at_call 11; (with_reducible refine (unhide (HR _)).mono ?_); rintro e w4 ⟨A4, c4, rfl, hc4, _, hb⟩; go_loud (
              have HB4 := hide (below_on (unhide HB3) hb);
              have HC4 := hide ((unhide HC3).below hb);
              clear hb)))
        go_loopw [12, 62] (fun s i wr => CatI w4 ts s i wr) (fun _ i _ => ts.length - (intOf i).toNat)
        case atStart => exact ⟨0, ⟨#[]⟩, rfl, rfl, by omega, rfl, Below.refl _ _⟩
        case round =>
          obtain ⟨j, X, rfl, rfl, hj, hX, hbr4⟩ := hrel
          have HX := hide hX
          have HBR4 := hide hbr4
          clear hX hbr4
          by_cases hjl : j < ts.length
          · have hk4 := unhide HK4 _ (List.getElem_mem hjl)
            obtain ⟨hby, htxl, _⟩ := unhide HTN _ (List.getElem_mem hjl)
            obtain ⟨g, hA, hg, a0, a1, a2⟩ := (unhide HC4).below (unhide HBR4) j _ (List.getElem?_eq_getElem hjl)
            rw [Nat.mul_comm 3 j] at a0 a1 a2
            obtain ⟨t, ht⟩ : ∃ t, t = ts[j]'hjl := ⟨_, rfl⟩
            rw [← ht] at hk4 hby htxl a0 a1 a2
            have HT := hide ht
            clear ht
            obtain ⟨kk, tx, ta⟩ := t
            simp only [] at hk4 hby htxl a0 a1 a2
            subst hk4
            subst hA
            simp only [show ((4 : Nat) : Int) = 4 from rfl] at a0
            rw [str_length] at htxl
            have hxs : X.size ≤ S.size := by
              rw [← str_length, unhide HX, ← str_length, ← unhide HFL]
              exact flat_take ts j
            have htx : (ba tx).size = tx.length := by rw [← str_length, str_ba hby]
            have hcat : ¬ 9223372036854775807 < X.size + (ba tx).size := by omega
            have HBY := hide hby
            clear hby
            go_wp2
            go_roundw
            case rel =>
              refine ⟨j + 1, X ++ ba tx, by go_num, rfl, by omega, ?_, below_on (unhide HBR4) (ride_alloc (Below.refl _ _) _)⟩
              rw [str_append, str_ba (unhide HBY), unhide HX, List.take_add_one, List.getElem?_eq_getElem hjl, ← unhide HT]
              simp
            case measure => simp [intOf]; omega
          · obtain rfl : X = S := str_inj (by
              rw [unhide HX, List.take_of_length_le (by omega)]
              exact unhide HFL)
            have HB5 := hide (below_on (unhide HB4) (unhide HBR4))
            go_wp2_with (first
              | (go_at_call 24; (with_reducible refine (unhide (HINT _)).mono ?_); rintro e w20 ⟨rfl, rfl⟩; go_loud (
                  have HA6 := HALL _ ((unhide HV).below (unhide HB5))))
              | (go_at_call 10; (with_reducible refine (unhide HA6).mono ?_); rintro e w21 ⟨g6, c6, rfl, hc6, d0, d1, d2, hb6⟩; go_loud (
                  have HB6 := hide (below_on (unhide HB5) hb6);
                  have HVN := HVAL _ ((unhide HV).below (unhide HB6));
                  clear hb6 HA6))
              | (go_at_call 12; (with_reducible refine (unhide HVN).mono ?_); rintro e w22 ⟨rfl, hb7⟩; go_loud (
                  have HB7 := hide (below_on (unhide HB6) hb7);
                  clear hb7 HVN))
              | (go_at_call 12; (with_reducible refine (unhide (HVO _)).mono ?_); rintro e w23 ⟨rfl, hb8⟩; go_loud (
                  have HB8 := hide (below_on (unhide HB7) hb8);
                  clear hb8)))
            go_ret
            exact ⟨rfl, unhide HB8⟩
end Go.Proofs.YtiimkodgfhkbpaaDoor
