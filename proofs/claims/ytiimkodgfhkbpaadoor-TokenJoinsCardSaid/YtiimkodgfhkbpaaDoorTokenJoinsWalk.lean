/- The walk of TokenJoins. -/
import Derived.Test.YtiimkodgfhkbpaaDoorKJoin
import Derived.Deep.QuietTactic
import Derived.BigQuiet
import Derived.Deep.Cut
import Derived.Deep.DeepCutAuto
namespace Go.Proofs.YtiimkodgfhkbpaaDoor
open Go.RowKit
set_option linter.unusedSimpArgs false
set_option linter.unusedVariables false
theorem toks_flat : ∀ (ts : List Tok) (m : List Nat) (a : Nat), scan m a = some ts → (ts.map (·.text)).flatten.length ≤ m.length
  | [], _, _, _ => by simp
  | t :: ts, m, a, h => by
    obtain ⟨h1, h2, h3, h4⟩ := scan_inv h
    have hle := firstL_le (m.drop (gapL m))
    have := toks_flat ts _ _ h4
    rw [List.length_drop] at this hle
    rw [List.map_cons, List.flatten_cons, List.length_append, h3]
    show (List.take _ _).length + _ ≤ _
    rw [List.length_take, List.length_drop]
    omega
theorem wide_len (sep : List Nat) : ∀ ts : List Tok, ((ts.map fun t => t.text ++ sep).flatten).length = (ts.map (·.text)).flatten.length + ts.length * sep.length
  | [] => by simp
  | t :: ts => by
    have := wide_len sep ts
    rw [List.map_cons, List.flatten_cons, List.length_append, this, List.map_cons, List.flatten_cons, List.length_append, List.length_append, List.length_cons, Nat.add_mul]
    omega
theorem wide_take (sep : List Nat) (ts : List Tok) (j : Nat) : (((ts.take j).map fun t => t.text ++ sep).flatten).length ≤ ((ts.map fun t => t.text ++ sep).flatten).length := by
  have h : (ts.map fun t => t.text ++ sep) = ((ts.take j).map fun t => t.text ++ sep) ++ (ts.drop j).map fun t => t.text ++ sep := by rw [← List.map_append, List.take_append_drop]
  rw [h, List.flatten_append, List.length_append]
  omega
theorem joinT_byte : ∀ xs : List (List Nat), (∀ x ∈ xs, ∀ b ∈ x, b < 256) → ∀ b ∈ joinT xs, b < 256
  | [], _, b, hb => by simp [joinT] at hb
  | [x], h, b, hb => h x (by simp) b hb
  | x :: y :: r, h, b, hb => by
    rw [show joinT (x :: y :: r) = x ++ 32 :: joinT (y :: r) from rfl] at hb
    rcases List.mem_append.1 hb with hb | hb
    · exact h x (by simp) b hb
    · rcases List.mem_cons.1 hb with rfl | hb
      · omega
      · exact joinT_byte (y :: r) (fun z hz => h z (by simp at hz ⊢; exact .inr hz)) b hb
/-- What stands between. -/
theorem between_any (r : Nat) (hr : r < 5) : ∃ sep : ByteArray, ([Value.string ⟨#[32]⟩, .string ⟨#[9]⟩, .string ⟨#[10]⟩, .string ⟨#[32, 35, 32, 120, 32, 33, 10]⟩, .string ⟨#[32, 32]⟩] : List Value)[r]'hr = .string sep ∧ Mute (str sep) ∧ (∃ b s, str sep = b :: s ∧ (b = 32 ∨ b = 9 ∨ b = 10)) ∧ sep.size ≤ 7 := by
  rcases (show r = 0 ∨ r = 1 ∨ r = 2 ∨ r = 3 ∨ r = 4 by omega) with rfl | rfl | rfl | rfl | rfl
  · exact ⟨_, rfl, mute_blank (b := 32) (.inl rfl) mute_nil, ⟨32, [], rfl, .inl rfl⟩, by decide⟩
  · exact ⟨_, rfl, mute_blank (b := 9) (.inr (.inl rfl)) mute_nil, ⟨9, [], rfl, .inr (.inl rfl)⟩, by decide⟩
  · exact ⟨_, rfl, mute_blank (b := 10) (.inr (.inr rfl)) mute_nil, ⟨10, [], rfl, .inr (.inr rfl)⟩, by decide⟩
  · refine ⟨_, rfl, fun l => ?_, ⟨32, [35, 32, 120, 32, 33, 10], rfl, .inl rfl⟩, by decide⟩
    show gapC false (32 :: 35 :: 32 :: 120 :: 32 :: 33 :: 10 :: l) = 7 + gapC false l
    simp [gapC]
    omega
  · exact ⟨_, rfl, mute_blank (b := 32) (.inl rfl) (mute_blank (b := 32) (.inl rfl) mute_nil), ⟨32, [32], rfl, .inl rfl⟩, by decide⟩
theorem mute_none : Mute [35, 32, 110, 111, 110, 101, 10] := fun l => by
  show gapC false (35 :: 32 :: 110 :: 111 :: 110 :: 101 :: 10 :: l) = 7 + gapC false l
  simp [gapC]
  omega
def WideI (W : World) (sep : ByteArray) (ts : List Tok) (s i : Value) (w : World) : Prop := ∃ (j : Nat) (T : ByteArray), i = .int .i64 (j : Int) ∧ s = .string T ∧ j ≤ ts.length ∧ str T = ((ts.take j).map fun t => t.text ++ str sep).flatten ∧ Below W.heap.size W w
def CountI (W : World) (n : Nat) (i : Value) (w : World) : Prop := ∃ j : Nat, i = .int .i64 (j : Int) ∧ j ≤ n ∧ Below W.heap.size W w
theorem keys_at {ms ts : List Tok} (h : keys ms = keys ts) : ms.length = ts.length ∧ ∀ (j : Nat) (m t : Tok), ms[j]? = some m → ts[j]? = some t → m.kind = t.kind ∧ m.text = t.text := by
  have hl : ms.length = ts.length := by
    have := congrArg List.length h
    unfold keys at this
    rw [List.length_map, List.length_map] at this
    exact this
  refine ⟨hl, fun j m t hm ht => ?_⟩
  have := congrArg (fun l => l[j]?) h
  unfold keys at this
  simp only [List.getElem?_map, hm, ht, Option.map_some, Option.some.injEq, Prod.mk.injEq] at this
  exact this
set_option maxRecDepth 100000 in
set_option maxHeartbeats 4000000 in
theorem joins_core (w : World) (s0 : ByteArray) (m : Nat) (hs : s0.size ≤ 9223372036854775807) (hm : m < 256) (hv : Vr w) :
    Calls Tryd.prog 4 #[.string s0, .int .u8 (m : Int)] w fun e w' => e = .returned (.bool true) ∧ Below w.heap.size w w' := by
  have HV := hide hv
  have HAW := hide (awake_true w hv)
  have HT := fun (x : World) => hide (text_some x s0 400 hs)
  simp only [show ((400 : Nat) : Int) = 400 from rfl] at HT
  clear hv
  go_enter Tryd.func4, Tryd.ntmps4
  go_upto_region 4 with (first
    | (go_at_call 8; (with_reducible refine (unhide HAW).mono ?_); rintro e w1 ⟨rfl, hb⟩; have HB1 := hide hb; clear hb)
    | (go_at_call 9; (with_reducible refine (unhide (HT _)).mono ?_); rintro e w2 ⟨⟨s, rfl, hsz⟩, rfl⟩))
  rcases hsc : scan (str s) 0 with _ | ts
  · have HA := hide (all_bad _ s (by omega) ((unhide HV).below (unhide HB1)) hsc)
    clear hsc
    go_wp2_with (go_at_call 10; (with_reducible refine (unhide HA).mono ?_); rintro e w3 ⟨rfl, hb⟩; have HB3 := hide (below_on (unhide HB1) hb); clear hb)
    go_ret
    exact ⟨rfl, unhide HB3⟩
  · have HA := hide (all_good _ s ts (by omega) ((unhide HV).below (unhide HB1)) hsc)
    have HGD := hide (good_of ts _ _ hsc)
    have HTK := hide (toks_num ts _ _ (str_small s) hsc)
    have htl := scan_len ts _ _ hsc
    have htf := toks_flat ts _ _ hsc
    rw [str_length] at htl htf
    clear hsc
    obtain ⟨r, hr⟩ : ∃ r : Nat, (m : Int) % 5 = (r : Int) := ⟨m % 5, by omega⟩
    have hr5 : r < 5 := by omega
    obtain ⟨sep, hsep, hmute, hhead, hsepsz⟩ := between_any r hr5
    have HMU := hide hmute
    have HHD := hide hhead
    clear hmute hhead
    go_upto_region 10 with (first
      | (go_at_call 10; (with_reducible refine (unhide HA).mono ?_); rintro e w3 ⟨A, c, rfl, hc, hC, hb⟩; go_loud (
          have HB3 := hide (below_on (unhide HB1) hb);
          have HC3 := hide hC;
          have HJ := hide (join_any w3 A c ts hC (by omega) hc (fun t ht => (unhide HTK t ht).1) (by omega));
          clear hb hC))
      | (go_at_call 14; (with_reducible refine (unhide HJ).mono ?_); rintro e w4 ⟨rfl, hb⟩; go_loud (
          have HB4 := hide (below_on (unhide HB3) hb);
          have HC4 := hide ((unhide HC3).below hb);
          clear hb)))
    have hbs : ∀ t ∈ ts, (ba t.text).size = t.text.length := fun t ht => by rw [← str_length, str_ba (unhide HTK t ht).1]
    have HBS := hide hbs
    clear hsep hbs hr
    go_wp2
    obtain ⟨w5, hw5⟩ : ∃ w5, w5 = w4.alloc (.cells #[.string ⟨#[32]⟩, .string ⟨#[9]⟩, .string ⟨#[10]⟩, .string ⟨#[32, 35, 32, 120, 32, 33, 10]⟩, .string ⟨#[32, 32]⟩] 9) := ⟨_, rfl⟩
    rw [← hw5]
    have HB5 := hide (below_on (unhide HB4) (by rw [hw5]; exact ride_alloc (Below.refl _ _) _ : Below w4.heap.size w4 w5))
    have HC5 := hide ((unhide HC4).below (by rw [hw5]; exact ride_alloc (Below.refl _ _) _ : Below w4.heap.size w4 w5))
    clear hw5
    go_loopw [9, 40] (fun x i wr => WideI w5 sep ts x i wr) (fun _ i _ => ts.length - (intOf i).toNat)
    case atStart => exact ⟨0, ⟨#[]⟩, rfl, rfl, by omega, rfl, Below.refl _ _⟩
    case round =>
      obtain ⟨j, X, rfl, rfl, hj, hX, hbr⟩ := hrel
      have HX := hide hX
      have HBR := hide hbr
      have hXs : X.size ≤ 3200 := by
        have h1 := wide_take (str sep) ts j
        have h2 := wide_len (str sep) ts
        rw [← hX, str_length] at h1
        rw [str_length] at h2
        have h3 : ts.length * sep.size ≤ 400 * 7 := Nat.mul_le_mul (by omega) hsepsz
        omega
      clear hX hbr
      by_cases hjl : j < ts.length
      · obtain ⟨hby, htxl, _⟩ := unhide HTK _ (List.getElem_mem hjl)
        have htx := unhide HBS _ (List.getElem_mem hjl)
        obtain ⟨g, hA, hg, a0, a1, a2⟩ := (unhide HC5).below (unhide HBR) j _ (List.getElem?_eq_getElem hjl)
        rw [Nat.mul_comm 3 j] at a0 a1 a2
        obtain ⟨t, ht⟩ : ∃ t, t = ts[j]'hjl := ⟨_, rfl⟩
        rw [← ht] at hby htxl htx a0 a1 a2
        have HTT := hide ht
        clear ht
        obtain ⟨kk, tx, ta⟩ := t
        simp only [] at hby htxl htx a0 a1 a2
        subst hA
        rw [str_length] at htxl
        have hcat1 : ¬ 9223372036854775807 < (ba tx).size + sep.size := by omega
        have hcat2 : ¬ 9223372036854775807 < X.size + (ba tx ++ sep).size := by rw [ByteArray.size_append]; omega
        have hcat3 : ¬ 9223372036854775807 < X.size + ((ba tx).size + sep.size) := by omega
        have HBY := hide hby
        clear hby
        go_wp2
        go_roundw
        case rel =>
          refine ⟨j + 1, X ++ (ba tx ++ sep), by go_num, rfl, by omega, ?_, below_on (unhide HBR) (ride_alloc (Below.refl _ _) _)⟩
          rw [str_append, str_append, str_ba (unhide HBY), unhide HX, List.take_add_one, List.getElem?_eq_getElem hjl, ← unhide HTT]
          simp
        case measure => simp [intOf]; omega
      · obtain rfl : j = ts.length := by omega
        have hXT := unhide HX
        rw [List.take_length] at hXT
        obtain ⟨J, hJ⟩ : ∃ J, J = ba (joinT (ts.map (·.text))) := ⟨_, rfl⟩
        have hJs : str J = joinT (ts.map (·.text)) := by
          rw [hJ]
          exact str_ba (joinT_byte _ fun x hx b hb => by
            obtain ⟨t, ht, rfl⟩ := List.mem_map.1 hx
            exact (unhide HTK t ht).1 b hb)
        have hJz : J.size ≤ 800 := by
          have h1 := joinT_len (ts.map (·.text))
          rw [← hJs, str_length, List.length_map] at h1
          omega
        have hus : ∀ (i : Nat) (u : ByteArray), [J, X, (⟨#[35, 32, 110, 111, 110, 101, 10]⟩ : ByteArray) ++ J][i]? = some u → u.size ≤ 200000 ∧ ∃ ms, scan (str u) 0 = some ms ∧ keys ms = keys ts := fun i u hu => by
          rcases i with _ | _ | _ | i
          · injection hu with hu
            subst hu
            exact ⟨by omega, by rw [hJs]; exact again_join ts 0 (unhide HGD)⟩
          · injection hu with hu
            subst hu
            exact ⟨by omega, by rw [hXT]; exact again_wide (unhide HMU) (unhide HHD) ts 0 (unhide HGD)⟩
          · injection hu with hu
            subst hu
            refine ⟨by rw [ByteArray.size_append]; have : (⟨#[35, 32, 110, 111, 110, 101, 10]⟩ : ByteArray).size = 7 := rfl; omega, ?_⟩
            rw [str_append, hJs, show str (⟨#[35, 32, 110, 111, 110, 101, 10]⟩ : ByteArray) = [35, 32, 110, 111, 110, 101, 10] from rfl, scan_mute mute_none]
            exact again_join ts _ (unhide HGD)
          · cases hu
        have HUS := hide hus
        have hcat : ¬ 9223372036854775807 < (⟨#[35, 32, 110, 111, 110, 101, 10]⟩ : ByteArray).size + J.size := by have : (⟨#[35, 32, 110, 111, 110, 101, 10]⟩ : ByteArray).size = 7 := rfl; omega
        have hcat7 : ¬ 9223372036854775807 < 7 + J.size := by omega
        rw [← hJ]
        clear hXT hJs hus hJ
        go_wp2
        obtain ⟨w6, hw6⟩ : ∃ w6, w6 = wr.alloc (.cells #[.string J, .string X, .string ((⟨#[35, 32, 110, 111, 110, 101, 10]⟩ : ByteArray) ++ J)] 9) := ⟨_, rfl⟩
        rw [← hw6]
        have hb6 : Below wr.heap.size wr w6 := by rw [hw6]; exact ride_alloc (Below.refl _ _) _
        have hlt6 : wr.heap.size < w6.heap.size := by rw [hw6]; simp
        have hc6 : ∀ x, Below w6.heap.size w6 x → ∀ (i : Nat) (u : ByteArray), [J, X, (⟨#[35, 32, 110, 111, 110, 101, 10]⟩ : ByteArray) ++ J][i]? = some u → x.cell? ⟨wr.heap.size, i, none⟩ = some (.string u) := fun x hx i u hu => by
          refine (hx.cell (p := ⟨wr.heap.size, i, none⟩) hlt6).trans ?_
          rw [hw6, World.cell?_alloc_at _ _ _ _ rfl]
          rcases i with _ | _ | _ | i
          · injection hu with hu; subst hu; rfl
          · injection hu with hu; subst hu; rfl
          · injection hu with hu; subst hu; rfl
          · cases hu
        have HC6 := hide hc6
        have HB6 := hide (below_on (unhide HB5) (below_on (unhide HBR) hb6))
        have HL6 := hide ((unhide HC5).below (below_on (unhide HBR) hb6))
        clear hw6 hb6 hlt6 hc6 HC5 HX
        go_loopw [57] (fun i wr => CountI w6 3 i wr) (fun i _ => 3 - (intOf i).toNat)
        case atStart => exact ⟨0, rfl, by omega, Below.refl _ _⟩
        case round =>
          obtain ⟨i, rfl, hi, hby6⟩ := hrel
          have HBY6 := hide hby6
          clear hby6
          by_cases hi3 : i < 3
          · obtain ⟨u, hu⟩ : ∃ u, [J, X, (⟨#[35, 32, 110, 111, 110, 101, 10]⟩ : ByteArray) ++ J][i]? = some u := ⟨_, List.getElem?_eq_getElem (by simpa using hi3)⟩
            obtain ⟨husz, ms, hms, hkeys⟩ := unhide HUS i u hu
            have hcell := unhide HC6 _ (unhide HBY6) i u hu
            obtain ⟨hml, hmk⟩ := keys_at hkeys
            have HMK := hide hmk
            have HA7 := hide (all_good wr u ms husz ((unhide HV).below (below_on (unhide HB6) (unhide HBY6))) hms)
            rw [hml] at HA7
            clear hu hms hkeys hmk
            go_wp2_with (go_at_call 10; (with_reducible refine (unhide HA7).mono ?_); rintro e w8 ⟨A8, c8, rfl, hc8, hC8, hb8⟩; go_loud (
              have HB8 := hide hb8;
              have HC8 := hide hC8;
              have HL8 := hide ((unhide HL6).below (below_on (unhide HBY6) hb8));
              clear hb8 hC8))
            go_loopw [77] (fun i wr => CountI w8 ts.length i wr) (fun i _ => ts.length - (intOf i).toNat)
            case atStart => exact ⟨0, rfl, by omega, Below.refl _ _⟩
            case round =>
              obtain ⟨j, rfl, hj8, hbz⟩ := hrel
              have HBZ := hide hbz
              clear hbz
              by_cases hjl8 : j < ts.length
              · obtain ⟨g, hA, hg, a0, a1, a2⟩ := (unhide HL8).below (unhide HBZ) j _ (List.getElem?_eq_getElem hjl8)
                obtain ⟨g8, hA8, hg8, d0, d1, d2⟩ := (unhide HC8).below (unhide HBZ) j _ (List.getElem?_eq_getElem (by rw [hml]; exact hjl8))
                obtain ⟨q1, q2⟩ := unhide HMK j _ _ (List.getElem?_eq_getElem (by rw [hml]; exact hjl8)) (List.getElem?_eq_getElem hjl8)
                rw [q1] at d0
                rw [q2] at d1
                rw [Nat.mul_comm 3 j] at a0 a1 a2 d0 d1 d2
                obtain ⟨kk, hkk⟩ : ∃ kk, kk = (ts[j]'hjl8).kind := ⟨_, rfl⟩
                obtain ⟨tx, htx⟩ : ∃ tx, tx = ba (ts[j]'hjl8).text := ⟨_, rfl⟩
                rw [← hkk] at a0 d0
                rw [← htx] at a1 d1
                subst hA hA8
                clear a2 d2 q1 q2 hkk htx
                go_wp2_with fail
                go_quiet (fail)
                go_wp2
                go_roundw
                case rel => exact ⟨j + 1, by go_num, by omega, below_drewN (unhide HBZ) _⟩
                case measure => simp [intOf]; omega
              · go_wp2
                go_roundw
                case rel => exact ⟨i + 1, by go_num, by omega, below_on (unhide HBY6) (below_on (unhide HB8) (unhide HBZ))⟩
                case measure => simp [intOf]; omega
          · go_wp2
            go_ret
            exact ⟨rfl, below_on (unhide HB6) (unhide HBY6)⟩
end Go.Proofs.YtiimkodgfhkbpaaDoor
