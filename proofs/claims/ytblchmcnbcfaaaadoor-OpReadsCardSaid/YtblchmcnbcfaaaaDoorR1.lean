/- ORText, ORdsA, ORdsB, ORdsC, OpReadsWalk: joined by program (tools/merge.py). -/
import Derived.Test.YtblchmcnbcfaaaaDoorORefB
import Derived.Test.YtblchmcnbcfaaaaDoorOText
import Derived.Test.YtblchmcnbcfaaaaDoorKDec
import Derived.Test.YtblchmcnbcfaaaaDoorR2
namespace Go.Proofs.YtblchmcnbcfaaaaDoor
open Go.RowKit
set_option linter.unusedVariables false
set_option linter.unusedSimpArgs false
theorem ba_size (l : List Nat) : (ba l).size = l.length := by
  unfold ba
  show (l.map UInt8.ofNat).toArray.size = _
  simp
theorem sp_str : str (⟨#[32]⟩ : ByteArray) = [32] := rfl
set_option maxRecDepth 100000 in
set_option maxHeartbeats 2000000 in
theorem rtext_0 (w : World) (k a b : Nat) (s : ByteArray) (hk : 1 ≤ k ∧ k ≤ 14) (ha : a < 18446744073709551616) (hb : b < 18446744073709551616) (hs : s.size ≤ 64) (hA : aK k = true) (hB : bK k = false) (hN : nK k = true) :
    Calls Tryd.prog 16 #[opV k a b s] w fun e w' => e = .returned (.string (ba (textO k a b (str s)))) ∧ Below w.heap.size w w' := by
  unfold opV
  have HP := fun (x : World) => hide (parts_any x k (by omega))
  have HHA := fun (x : World) => hide (has_kind x k 65 (.inl rfl) hk)
  have HHB := fun (x : World) => hide (has_kind x k 66 (.inr (.inl rfl)) hk)
  have HHN := fun (x : World) => hide (has_kind x k 78 (.inr (.inr rfl)) hk)
  rw [show letK k 65 = true from hA, show ((65 : Nat) : Int) = 65 from rfl] at HHA
  rw [show letK k 66 = false from hB, show ((66 : Nat) : Int) = 66 from rfl] at HHB
  rw [show letK k 78 = true from hN, show ((78 : Nat) : Int) = 78 from rfl] at HHN
  have HDA := fun (x : World) => hide (dec_any a x ha)
  have HDB := fun (x : World) => hide (dec_any b x hb)
  have hwl : (ba (wordK k)).size ≤ 13 := by rw [ba_size]; exact word_len k hk.2
  have hal : (ba (decL a)).size ≤ 20 := by rw [ba_size]; exact decL_20 ha
  have hbl : (ba (decL b)).size ≤ 20 := by rw [ba_size]; exact decL_20 hb
  have hres : ba (textO k a b (str s)) = ((ba (wordK k) ++ ((⟨#[32]⟩ : ByteArray) ++ ba (decL a))) ++ ((⟨#[32]⟩ : ByteArray) ++ s)) := by
    apply str_inj
    rw [str_ba]
    · simp only [str_append, sp_str, str_ba (word_byte k hk.2), str_ba (decL_byte _)]
      unfold textO partsO optL
      rw [hA, hB, hN]
      simp [joinT]
    · intro x hx
      unfold textO partsO optL at hx
      rw [hA, hB, hN] at hx
      simp only [joinT, if_true, Bool.false_eq_true, if_false, List.cons_append, List.nil_append, List.append_nil, List.mem_append, List.mem_cons] at hx
      have h1 := word_byte k hk.2 x
      have h2 := decL_byte a x
      have h3 := decL_byte b x
      have h4 := str_small s x
      have h5 : x = 32 → x < 256 := by omega
      repeat (first | (exact h1 hx) | (exact h2 hx) | (exact h3 hx) | (exact h4 hx) | (exact h5 hx) | (rcases hx with hx | hx))
  obtain ⟨wd, hwd⟩ : ∃ wd, ba (wordK k) = wd := ⟨_, rfl⟩
  obtain ⟨da, hda⟩ : ∃ da, ba (decL a) = da := ⟨_, rfl⟩
  obtain ⟨db, hdb⟩ : ∃ db, ba (decL b) = db := ⟨_, rfl⟩
  rw [hwd] at HP hwl
  rw [hda] at HDA hal
  rw [hdb] at HDB hbl
  rw [hwd, hda] at hres
  have HRES := Lib.hid hres
  have c0 : ¬ 9223372036854775807 < (⟨#[32]⟩ : ByteArray).size + da.size := by rw [show (⟨#[32]⟩ : ByteArray).size = 1 from rfl]; omega
  have d0 : ¬ 9223372036854775807 < 1 + da.size := by omega
  have e0 : ¬ 9223372036854775807 < wd.size + ((⟨#[32]⟩ : ByteArray) ++ da).size := by simp only [ByteArray.size_append, show (⟨#[32]⟩ : ByteArray).size = 1 from rfl]; omega
  have g0 : ¬ 9223372036854775807 < wd.size + (1 + da.size) := by omega
  have c1 : ¬ 9223372036854775807 < (⟨#[32]⟩ : ByteArray).size + s.size := by rw [show (⟨#[32]⟩ : ByteArray).size = 1 from rfl]; omega
  have d1 : ¬ 9223372036854775807 < 1 + s.size := by omega
  have e1 : ¬ 9223372036854775807 < (wd ++ ((⟨#[32]⟩ : ByteArray) ++ da)).size + ((⟨#[32]⟩ : ByteArray) ++ s).size := by simp only [ByteArray.size_append, show (⟨#[32]⟩ : ByteArray).size = 1 from rfl]; omega
  have g1 : ¬ 9223372036854775807 < (wd.size + (1 + da.size)) + (1 + s.size) := by omega
  clear hres hwd hda hdb hk ha hb hA hB hN hwl hal hbl hs
  go_enter Tryd.func16, Tryd.ntmps16
  go_wp2_with (first
    | (go_at_call 8; (with_reducible refine (unhide (HP _)).mono ?_); rintro e w1 ⟨rfl, hb1⟩; go_loud (
        have HBX := hide hb1;
        obtain ⟨z0, z1, z2, z3⟩ := box4 hb1;
        clear hb1))
    | (go_at_call 33; (with_reducible refine (unhide (HHA _)).mono ?_); rintro e w2 ⟨rfl, hw⟩; rw [hw]; clear hw w2)
    | (go_at_call 33; (with_reducible refine (unhide (HHB _)).mono ?_); rintro e w2 ⟨rfl, hw⟩; rw [hw]; clear hw w2)
    | (go_at_call 33; (with_reducible refine (unhide (HHN _)).mono ?_); rintro e w2 ⟨rfl, hw⟩; rw [hw]; clear hw w2)
    | (go_at_call 11; (with_reducible refine (unhide (HDA _)).mono ?_); rintro e w3 ⟨rfl, hw⟩; rw [← hw]; clear hw w3)
    | (go_at_call 11; (with_reducible refine (unhide (HDB _)).mono ?_); rintro e w3 ⟨rfl, hw⟩; rw [← hw]; clear hw w3))
  go_ret
  exact ⟨by rw [HRES.out]; rfl, opcells (unhide HBX)⟩
set_option maxRecDepth 100000 in
set_option maxHeartbeats 2000000 in
theorem rtext_1 (w : World) (k a b : Nat) (s : ByteArray) (hk : 1 ≤ k ∧ k ≤ 14) (ha : a < 18446744073709551616) (hb : b < 18446744073709551616) (hs : s.size ≤ 64) (hA : aK k = true) (hB : bK k = false) (hN : nK k = false) :
    Calls Tryd.prog 16 #[opV k a b s] w fun e w' => e = .returned (.string (ba (textO k a b (str s)))) ∧ Below w.heap.size w w' := by
  unfold opV
  have HP := fun (x : World) => hide (parts_any x k (by omega))
  have HHA := fun (x : World) => hide (has_kind x k 65 (.inl rfl) hk)
  have HHB := fun (x : World) => hide (has_kind x k 66 (.inr (.inl rfl)) hk)
  have HHN := fun (x : World) => hide (has_kind x k 78 (.inr (.inr rfl)) hk)
  rw [show letK k 65 = true from hA, show ((65 : Nat) : Int) = 65 from rfl] at HHA
  rw [show letK k 66 = false from hB, show ((66 : Nat) : Int) = 66 from rfl] at HHB
  rw [show letK k 78 = false from hN, show ((78 : Nat) : Int) = 78 from rfl] at HHN
  have HDA := fun (x : World) => hide (dec_any a x ha)
  have HDB := fun (x : World) => hide (dec_any b x hb)
  have hwl : (ba (wordK k)).size ≤ 13 := by rw [ba_size]; exact word_len k hk.2
  have hal : (ba (decL a)).size ≤ 20 := by rw [ba_size]; exact decL_20 ha
  have hbl : (ba (decL b)).size ≤ 20 := by rw [ba_size]; exact decL_20 hb
  have hres : ba (textO k a b (str s)) = (ba (wordK k) ++ ((⟨#[32]⟩ : ByteArray) ++ ba (decL a))) := by
    apply str_inj
    rw [str_ba]
    · simp only [str_append, sp_str, str_ba (word_byte k hk.2), str_ba (decL_byte _)]
      unfold textO partsO optL
      rw [hA, hB, hN]
      simp [joinT]
    · intro x hx
      unfold textO partsO optL at hx
      rw [hA, hB, hN] at hx
      simp only [joinT, if_true, Bool.false_eq_true, if_false, List.cons_append, List.nil_append, List.append_nil, List.mem_append, List.mem_cons] at hx
      have h1 := word_byte k hk.2 x
      have h2 := decL_byte a x
      have h3 := decL_byte b x
      have h4 := str_small s x
      have h5 : x = 32 → x < 256 := by omega
      repeat (first | (exact h1 hx) | (exact h2 hx) | (exact h3 hx) | (exact h4 hx) | (exact h5 hx) | (rcases hx with hx | hx))
  obtain ⟨wd, hwd⟩ : ∃ wd, ba (wordK k) = wd := ⟨_, rfl⟩
  obtain ⟨da, hda⟩ : ∃ da, ba (decL a) = da := ⟨_, rfl⟩
  obtain ⟨db, hdb⟩ : ∃ db, ba (decL b) = db := ⟨_, rfl⟩
  rw [hwd] at HP hwl
  rw [hda] at HDA hal
  rw [hdb] at HDB hbl
  rw [hwd, hda] at hres
  have HRES := Lib.hid hres
  have c0 : ¬ 9223372036854775807 < (⟨#[32]⟩ : ByteArray).size + da.size := by rw [show (⟨#[32]⟩ : ByteArray).size = 1 from rfl]; omega
  have d0 : ¬ 9223372036854775807 < 1 + da.size := by omega
  have e0 : ¬ 9223372036854775807 < wd.size + ((⟨#[32]⟩ : ByteArray) ++ da).size := by simp only [ByteArray.size_append, show (⟨#[32]⟩ : ByteArray).size = 1 from rfl]; omega
  have g0 : ¬ 9223372036854775807 < wd.size + (1 + da.size) := by omega
  clear hres hwd hda hdb hk ha hb hA hB hN hwl hal hbl hs
  go_enter Tryd.func16, Tryd.ntmps16
  go_wp2_with (first
    | (go_at_call 8; (with_reducible refine (unhide (HP _)).mono ?_); rintro e w1 ⟨rfl, hb1⟩; go_loud (
        have HBX := hide hb1;
        obtain ⟨z0, z1, z2, z3⟩ := box4 hb1;
        clear hb1))
    | (go_at_call 33; (with_reducible refine (unhide (HHA _)).mono ?_); rintro e w2 ⟨rfl, hw⟩; rw [hw]; clear hw w2)
    | (go_at_call 33; (with_reducible refine (unhide (HHB _)).mono ?_); rintro e w2 ⟨rfl, hw⟩; rw [hw]; clear hw w2)
    | (go_at_call 33; (with_reducible refine (unhide (HHN _)).mono ?_); rintro e w2 ⟨rfl, hw⟩; rw [hw]; clear hw w2)
    | (go_at_call 11; (with_reducible refine (unhide (HDA _)).mono ?_); rintro e w3 ⟨rfl, hw⟩; rw [← hw]; clear hw w3)
    | (go_at_call 11; (with_reducible refine (unhide (HDB _)).mono ?_); rintro e w3 ⟨rfl, hw⟩; rw [← hw]; clear hw w3))
  go_ret
  exact ⟨by rw [HRES.out]; rfl, opcells (unhide HBX)⟩
set_option maxRecDepth 100000 in
set_option maxHeartbeats 2000000 in
theorem rtext_2 (w : World) (k a b : Nat) (s : ByteArray) (hk : 1 ≤ k ∧ k ≤ 14) (ha : a < 18446744073709551616) (hb : b < 18446744073709551616) (hs : s.size ≤ 64) (hA : aK k = true) (hB : bK k = true) (hN : nK k = false) :
    Calls Tryd.prog 16 #[opV k a b s] w fun e w' => e = .returned (.string (ba (textO k a b (str s)))) ∧ Below w.heap.size w w' := by
  unfold opV
  have HP := fun (x : World) => hide (parts_any x k (by omega))
  have HHA := fun (x : World) => hide (has_kind x k 65 (.inl rfl) hk)
  have HHB := fun (x : World) => hide (has_kind x k 66 (.inr (.inl rfl)) hk)
  have HHN := fun (x : World) => hide (has_kind x k 78 (.inr (.inr rfl)) hk)
  rw [show letK k 65 = true from hA, show ((65 : Nat) : Int) = 65 from rfl] at HHA
  rw [show letK k 66 = true from hB, show ((66 : Nat) : Int) = 66 from rfl] at HHB
  rw [show letK k 78 = false from hN, show ((78 : Nat) : Int) = 78 from rfl] at HHN
  have HDA := fun (x : World) => hide (dec_any a x ha)
  have HDB := fun (x : World) => hide (dec_any b x hb)
  have hwl : (ba (wordK k)).size ≤ 13 := by rw [ba_size]; exact word_len k hk.2
  have hal : (ba (decL a)).size ≤ 20 := by rw [ba_size]; exact decL_20 ha
  have hbl : (ba (decL b)).size ≤ 20 := by rw [ba_size]; exact decL_20 hb
  have hres : ba (textO k a b (str s)) = ((ba (wordK k) ++ ((⟨#[32]⟩ : ByteArray) ++ ba (decL a))) ++ ((⟨#[32]⟩ : ByteArray) ++ ba (decL b))) := by
    apply str_inj
    rw [str_ba]
    · simp only [str_append, sp_str, str_ba (word_byte k hk.2), str_ba (decL_byte _)]
      unfold textO partsO optL
      rw [hA, hB, hN]
      simp [joinT]
    · intro x hx
      unfold textO partsO optL at hx
      rw [hA, hB, hN] at hx
      simp only [joinT, if_true, Bool.false_eq_true, if_false, List.cons_append, List.nil_append, List.append_nil, List.mem_append, List.mem_cons] at hx
      have h1 := word_byte k hk.2 x
      have h2 := decL_byte a x
      have h3 := decL_byte b x
      have h4 := str_small s x
      have h5 : x = 32 → x < 256 := by omega
      repeat (first | (exact h1 hx) | (exact h2 hx) | (exact h3 hx) | (exact h4 hx) | (exact h5 hx) | (rcases hx with hx | hx))
  obtain ⟨wd, hwd⟩ : ∃ wd, ba (wordK k) = wd := ⟨_, rfl⟩
  obtain ⟨da, hda⟩ : ∃ da, ba (decL a) = da := ⟨_, rfl⟩
  obtain ⟨db, hdb⟩ : ∃ db, ba (decL b) = db := ⟨_, rfl⟩
  rw [hwd] at HP hwl
  rw [hda] at HDA hal
  rw [hdb] at HDB hbl
  rw [hwd, hda, hdb] at hres
  have HRES := Lib.hid hres
  have c0 : ¬ 9223372036854775807 < (⟨#[32]⟩ : ByteArray).size + da.size := by rw [show (⟨#[32]⟩ : ByteArray).size = 1 from rfl]; omega
  have d0 : ¬ 9223372036854775807 < 1 + da.size := by omega
  have e0 : ¬ 9223372036854775807 < wd.size + ((⟨#[32]⟩ : ByteArray) ++ da).size := by simp only [ByteArray.size_append, show (⟨#[32]⟩ : ByteArray).size = 1 from rfl]; omega
  have g0 : ¬ 9223372036854775807 < wd.size + (1 + da.size) := by omega
  have c1 : ¬ 9223372036854775807 < (⟨#[32]⟩ : ByteArray).size + db.size := by rw [show (⟨#[32]⟩ : ByteArray).size = 1 from rfl]; omega
  have d1 : ¬ 9223372036854775807 < 1 + db.size := by omega
  have e1 : ¬ 9223372036854775807 < (wd ++ ((⟨#[32]⟩ : ByteArray) ++ da)).size + ((⟨#[32]⟩ : ByteArray) ++ db).size := by simp only [ByteArray.size_append, show (⟨#[32]⟩ : ByteArray).size = 1 from rfl]; omega
  have g1 : ¬ 9223372036854775807 < (wd.size + (1 + da.size)) + (1 + db.size) := by omega
  clear hres hwd hda hdb hk ha hb hA hB hN hwl hal hbl hs
  go_enter Tryd.func16, Tryd.ntmps16
  go_wp2_with (first
    | (go_at_call 8; (with_reducible refine (unhide (HP _)).mono ?_); rintro e w1 ⟨rfl, hb1⟩; go_loud (
        have HBX := hide hb1;
        obtain ⟨z0, z1, z2, z3⟩ := box4 hb1;
        clear hb1))
    | (go_at_call 33; (with_reducible refine (unhide (HHA _)).mono ?_); rintro e w2 ⟨rfl, hw⟩; rw [hw]; clear hw w2)
    | (go_at_call 33; (with_reducible refine (unhide (HHB _)).mono ?_); rintro e w2 ⟨rfl, hw⟩; rw [hw]; clear hw w2)
    | (go_at_call 33; (with_reducible refine (unhide (HHN _)).mono ?_); rintro e w2 ⟨rfl, hw⟩; rw [hw]; clear hw w2)
    | (go_at_call 11; (with_reducible refine (unhide (HDA _)).mono ?_); rintro e w3 ⟨rfl, hw⟩; rw [← hw]; clear hw w3)
    | (go_at_call 11; (with_reducible refine (unhide (HDB _)).mono ?_); rintro e w3 ⟨rfl, hw⟩; rw [← hw]; clear hw w3))
  go_ret
  exact ⟨by rw [HRES.out]; rfl, opcells (unhide HBX)⟩
set_option maxRecDepth 100000 in
set_option maxHeartbeats 2000000 in
theorem rtext_3 (w : World) (k a b : Nat) (s : ByteArray) (hk : 1 ≤ k ∧ k ≤ 14) (ha : a < 18446744073709551616) (hb : b < 18446744073709551616) (hs : s.size ≤ 64) (hA : aK k = true) (hB : bK k = true) (hN : nK k = true) :
    Calls Tryd.prog 16 #[opV k a b s] w fun e w' => e = .returned (.string (ba (textO k a b (str s)))) ∧ Below w.heap.size w w' := by
  unfold opV
  have HP := fun (x : World) => hide (parts_any x k (by omega))
  have HHA := fun (x : World) => hide (has_kind x k 65 (.inl rfl) hk)
  have HHB := fun (x : World) => hide (has_kind x k 66 (.inr (.inl rfl)) hk)
  have HHN := fun (x : World) => hide (has_kind x k 78 (.inr (.inr rfl)) hk)
  rw [show letK k 65 = true from hA, show ((65 : Nat) : Int) = 65 from rfl] at HHA
  rw [show letK k 66 = true from hB, show ((66 : Nat) : Int) = 66 from rfl] at HHB
  rw [show letK k 78 = true from hN, show ((78 : Nat) : Int) = 78 from rfl] at HHN
  have HDA := fun (x : World) => hide (dec_any a x ha)
  have HDB := fun (x : World) => hide (dec_any b x hb)
  have hwl : (ba (wordK k)).size ≤ 13 := by rw [ba_size]; exact word_len k hk.2
  have hal : (ba (decL a)).size ≤ 20 := by rw [ba_size]; exact decL_20 ha
  have hbl : (ba (decL b)).size ≤ 20 := by rw [ba_size]; exact decL_20 hb
  have hres : ba (textO k a b (str s)) = (((ba (wordK k) ++ ((⟨#[32]⟩ : ByteArray) ++ ba (decL a))) ++ ((⟨#[32]⟩ : ByteArray) ++ ba (decL b))) ++ ((⟨#[32]⟩ : ByteArray) ++ s)) := by
    apply str_inj
    rw [str_ba]
    · simp only [str_append, sp_str, str_ba (word_byte k hk.2), str_ba (decL_byte _)]
      unfold textO partsO optL
      rw [hA, hB, hN]
      simp [joinT]
    · intro x hx
      unfold textO partsO optL at hx
      rw [hA, hB, hN] at hx
      simp only [joinT, if_true, Bool.false_eq_true, if_false, List.cons_append, List.nil_append, List.append_nil, List.mem_append, List.mem_cons] at hx
      have h1 := word_byte k hk.2 x
      have h2 := decL_byte a x
      have h3 := decL_byte b x
      have h4 := str_small s x
      have h5 : x = 32 → x < 256 := by omega
      repeat (first | (exact h1 hx) | (exact h2 hx) | (exact h3 hx) | (exact h4 hx) | (exact h5 hx) | (rcases hx with hx | hx))
  obtain ⟨wd, hwd⟩ : ∃ wd, ba (wordK k) = wd := ⟨_, rfl⟩
  obtain ⟨da, hda⟩ : ∃ da, ba (decL a) = da := ⟨_, rfl⟩
  obtain ⟨db, hdb⟩ : ∃ db, ba (decL b) = db := ⟨_, rfl⟩
  rw [hwd] at HP hwl
  rw [hda] at HDA hal
  rw [hdb] at HDB hbl
  rw [hwd, hda, hdb] at hres
  have HRES := Lib.hid hres
  have c0 : ¬ 9223372036854775807 < (⟨#[32]⟩ : ByteArray).size + da.size := by rw [show (⟨#[32]⟩ : ByteArray).size = 1 from rfl]; omega
  have d0 : ¬ 9223372036854775807 < 1 + da.size := by omega
  have e0 : ¬ 9223372036854775807 < wd.size + ((⟨#[32]⟩ : ByteArray) ++ da).size := by simp only [ByteArray.size_append, show (⟨#[32]⟩ : ByteArray).size = 1 from rfl]; omega
  have g0 : ¬ 9223372036854775807 < wd.size + (1 + da.size) := by omega
  have c1 : ¬ 9223372036854775807 < (⟨#[32]⟩ : ByteArray).size + db.size := by rw [show (⟨#[32]⟩ : ByteArray).size = 1 from rfl]; omega
  have d1 : ¬ 9223372036854775807 < 1 + db.size := by omega
  have e1 : ¬ 9223372036854775807 < (wd ++ ((⟨#[32]⟩ : ByteArray) ++ da)).size + ((⟨#[32]⟩ : ByteArray) ++ db).size := by simp only [ByteArray.size_append, show (⟨#[32]⟩ : ByteArray).size = 1 from rfl]; omega
  have g1 : ¬ 9223372036854775807 < (wd.size + (1 + da.size)) + (1 + db.size) := by omega
  have c2 : ¬ 9223372036854775807 < (⟨#[32]⟩ : ByteArray).size + s.size := by rw [show (⟨#[32]⟩ : ByteArray).size = 1 from rfl]; omega
  have d2 : ¬ 9223372036854775807 < 1 + s.size := by omega
  have e2 : ¬ 9223372036854775807 < ((wd ++ ((⟨#[32]⟩ : ByteArray) ++ da)) ++ ((⟨#[32]⟩ : ByteArray) ++ db)).size + ((⟨#[32]⟩ : ByteArray) ++ s).size := by simp only [ByteArray.size_append, show (⟨#[32]⟩ : ByteArray).size = 1 from rfl]; omega
  have g2 : ¬ 9223372036854775807 < ((wd.size + (1 + da.size)) + (1 + db.size)) + (1 + s.size) := by omega
  clear hres hwd hda hdb hk ha hb hA hB hN hwl hal hbl hs
  go_enter Tryd.func16, Tryd.ntmps16
  go_wp2_with (first
    | (go_at_call 8; (with_reducible refine (unhide (HP _)).mono ?_); rintro e w1 ⟨rfl, hb1⟩; go_loud (
        have HBX := hide hb1;
        obtain ⟨z0, z1, z2, z3⟩ := box4 hb1;
        clear hb1))
    | (go_at_call 33; (with_reducible refine (unhide (HHA _)).mono ?_); rintro e w2 ⟨rfl, hw⟩; rw [hw]; clear hw w2)
    | (go_at_call 33; (with_reducible refine (unhide (HHB _)).mono ?_); rintro e w2 ⟨rfl, hw⟩; rw [hw]; clear hw w2)
    | (go_at_call 33; (with_reducible refine (unhide (HHN _)).mono ?_); rintro e w2 ⟨rfl, hw⟩; rw [hw]; clear hw w2)
    | (go_at_call 11; (with_reducible refine (unhide (HDA _)).mono ?_); rintro e w3 ⟨rfl, hw⟩; rw [← hw]; clear hw w3)
    | (go_at_call 11; (with_reducible refine (unhide (HDB _)).mono ?_); rintro e w3 ⟨rfl, hw⟩; rw [← hw]; clear hw w3))
  go_ret
  exact ⟨by rw [HRES.out]; rfl, opcells (unhide HBX)⟩
set_option maxRecDepth 100000 in
set_option maxHeartbeats 2000000 in
theorem rtext_4 (w : World) (k a b : Nat) (s : ByteArray) (hk : 1 ≤ k ∧ k ≤ 14) (ha : a < 18446744073709551616) (hb : b < 18446744073709551616) (hs : s.size ≤ 64) (hA : aK k = false) (hB : bK k = false) (hN : nK k = true) :
    Calls Tryd.prog 16 #[opV k a b s] w fun e w' => e = .returned (.string (ba (textO k a b (str s)))) ∧ Below w.heap.size w w' := by
  unfold opV
  have HP := fun (x : World) => hide (parts_any x k (by omega))
  have HHA := fun (x : World) => hide (has_kind x k 65 (.inl rfl) hk)
  have HHB := fun (x : World) => hide (has_kind x k 66 (.inr (.inl rfl)) hk)
  have HHN := fun (x : World) => hide (has_kind x k 78 (.inr (.inr rfl)) hk)
  rw [show letK k 65 = false from hA, show ((65 : Nat) : Int) = 65 from rfl] at HHA
  rw [show letK k 66 = false from hB, show ((66 : Nat) : Int) = 66 from rfl] at HHB
  rw [show letK k 78 = true from hN, show ((78 : Nat) : Int) = 78 from rfl] at HHN
  have HDA := fun (x : World) => hide (dec_any a x ha)
  have HDB := fun (x : World) => hide (dec_any b x hb)
  have hwl : (ba (wordK k)).size ≤ 13 := by rw [ba_size]; exact word_len k hk.2
  have hal : (ba (decL a)).size ≤ 20 := by rw [ba_size]; exact decL_20 ha
  have hbl : (ba (decL b)).size ≤ 20 := by rw [ba_size]; exact decL_20 hb
  have hres : ba (textO k a b (str s)) = (ba (wordK k) ++ ((⟨#[32]⟩ : ByteArray) ++ s)) := by
    apply str_inj
    rw [str_ba]
    · simp only [str_append, sp_str, str_ba (word_byte k hk.2), str_ba (decL_byte _)]
      unfold textO partsO optL
      rw [hA, hB, hN]
      simp [joinT]
    · intro x hx
      unfold textO partsO optL at hx
      rw [hA, hB, hN] at hx
      simp only [joinT, if_true, Bool.false_eq_true, if_false, List.cons_append, List.nil_append, List.append_nil, List.mem_append, List.mem_cons] at hx
      have h1 := word_byte k hk.2 x
      have h2 := decL_byte a x
      have h3 := decL_byte b x
      have h4 := str_small s x
      have h5 : x = 32 → x < 256 := by omega
      repeat (first | (exact h1 hx) | (exact h2 hx) | (exact h3 hx) | (exact h4 hx) | (exact h5 hx) | (rcases hx with hx | hx))
  obtain ⟨wd, hwd⟩ : ∃ wd, ba (wordK k) = wd := ⟨_, rfl⟩
  obtain ⟨da, hda⟩ : ∃ da, ba (decL a) = da := ⟨_, rfl⟩
  obtain ⟨db, hdb⟩ : ∃ db, ba (decL b) = db := ⟨_, rfl⟩
  rw [hwd] at HP hwl
  rw [hda] at HDA hal
  rw [hdb] at HDB hbl
  rw [hwd] at hres
  have HRES := Lib.hid hres
  have c0 : ¬ 9223372036854775807 < (⟨#[32]⟩ : ByteArray).size + s.size := by rw [show (⟨#[32]⟩ : ByteArray).size = 1 from rfl]; omega
  have d0 : ¬ 9223372036854775807 < 1 + s.size := by omega
  have e0 : ¬ 9223372036854775807 < wd.size + ((⟨#[32]⟩ : ByteArray) ++ s).size := by simp only [ByteArray.size_append, show (⟨#[32]⟩ : ByteArray).size = 1 from rfl]; omega
  have g0 : ¬ 9223372036854775807 < wd.size + (1 + s.size) := by omega
  clear hres hwd hda hdb hk ha hb hA hB hN hwl hal hbl hs
  go_enter Tryd.func16, Tryd.ntmps16
  go_wp2_with (first
    | (go_at_call 8; (with_reducible refine (unhide (HP _)).mono ?_); rintro e w1 ⟨rfl, hb1⟩; go_loud (
        have HBX := hide hb1;
        obtain ⟨z0, z1, z2, z3⟩ := box4 hb1;
        clear hb1))
    | (go_at_call 33; (with_reducible refine (unhide (HHA _)).mono ?_); rintro e w2 ⟨rfl, hw⟩; rw [hw]; clear hw w2)
    | (go_at_call 33; (with_reducible refine (unhide (HHB _)).mono ?_); rintro e w2 ⟨rfl, hw⟩; rw [hw]; clear hw w2)
    | (go_at_call 33; (with_reducible refine (unhide (HHN _)).mono ?_); rintro e w2 ⟨rfl, hw⟩; rw [hw]; clear hw w2)
    | (go_at_call 11; (with_reducible refine (unhide (HDA _)).mono ?_); rintro e w3 ⟨rfl, hw⟩; rw [← hw]; clear hw w3)
    | (go_at_call 11; (with_reducible refine (unhide (HDB _)).mono ?_); rintro e w3 ⟨rfl, hw⟩; rw [← hw]; clear hw w3))
  go_ret
  exact ⟨by rw [HRES.out]; rfl, opcells (unhide HBX)⟩
theorem rtext_good (w : World) (k a b : Nat) (s : ByteArray) (ha : a < 18446744073709551616) (hb : b < 18446744073709551616) (hr : rightO k a b (str s) = true) :
    Calls Tryd.prog 16 #[opV k a b s] w fun e w' => e = .returned (.string (ba (textO k a b (str s)))) ∧ Below w.heap.size w w' := by
  have hk := rightO_kind hr
  have hs := rightO_len hr
  rw [str_length] at hs
  have hcase := kinds_case k hk.2
  rcases hA : aK k with _ | _ <;> rcases hB : bK k with _ | _ <;> rcases hN : nK k with _ | _ <;> rw [hA, hB, hN] at hcase
  · exact absurd hcase (by decide)
  · exact rtext_4 w k a b s hk ha hb hs hA hB hN
  · exact absurd hcase (by decide)
  · exact absurd hcase (by decide)
  · exact rtext_1 w k a b s hk ha hb hs hA hB hN
  · exact rtext_0 w k a b s hk ha hb hs hA hB hN
  · exact rtext_2 w k a b s hk ha hb hs hA hB hN
  · exact rtext_3 w k a b s hk ha hb hs hA hB hN
end Go.Proofs.YtblchmcnbcfaaaaDoor
namespace Go.Proofs.YtblchmcnbcfaaaaDoor
open Go.RowKit
set_option linter.unusedVariables false
set_option linter.unusedSimpArgs false
theorem flags_tell_0 : ∀ k, k ≤ 14 → 1 ≤ k → flagsK k = str (⟨#[]⟩ : ByteArray) → (true = false) := by decide
theorem flags_tell_1 : ∀ k, k ≤ 14 → 1 ≤ k → flagsK k = str (⟨#[78]⟩ : ByteArray) → aK k = false ∧ bK k = false ∧ nK k = true := by decide
theorem flags_tell_2 : ∀ k, k ≤ 14 → 1 ≤ k → flagsK k = str (⟨#[66]⟩ : ByteArray) → (true = false) := by decide
theorem flags_tell_3 : ∀ k, k ≤ 14 → 1 ≤ k → flagsK k = str (⟨#[66, 78]⟩ : ByteArray) → (true = false) := by decide
theorem flags_tell_4 : ∀ k, k ≤ 14 → 1 ≤ k → flagsK k = str (⟨#[65]⟩ : ByteArray) → aK k = true ∧ bK k = false ∧ nK k = false := by decide
theorem flags_tell_5 : ∀ k, k ≤ 14 → 1 ≤ k → flagsK k = str (⟨#[65, 78]⟩ : ByteArray) → aK k = true ∧ bK k = false ∧ nK k = true := by decide
theorem flags_tell_6 : ∀ k, k ≤ 14 → 1 ≤ k → flagsK k = str (⟨#[65, 66]⟩ : ByteArray) → aK k = true ∧ bK k = true ∧ nK k = false := by decide
theorem flags_tell_7 : ∀ k, k ≤ 14 → 1 ≤ k → flagsK k = str (⟨#[65, 66, 78]⟩ : ByteArray) → aK k = true ∧ bK k = true ∧ nK k = true := by decide
set_option maxRecDepth 100000 in
set_option maxHeartbeats 4000000 in
theorem reads_0 (w : World) (m a b h : Nat) (nm0 : ByteArray) (hm : m < 256) (ha : a < 4294967296) (hb : b < 4294967296) (hh : h < 256) (hs : nm0.size ≤ 9223372036854775807) (hv : Vo w) (he : Ve w)
    (h1 : ((h : Int) % 2 == 1) = false) (h2 : ((h : Int) / 2 % 2 == 1) = false) (h3 : ((h : Int) / 4 % 2 == 1) = false) (g1 : ((h : Int) % 2 == 0) = true) (g2 : ((h : Int) / 2 % 2 == 0) = true) (g3 : ((h : Int) / 4 % 2 == 0) = true) :
    Calls Tryd.prog 4 #[.int .u8 (m : Int), .int .u32 (a : Int), .int .u32 (b : Int), .string nm0, .int .u8 (h : Int)] w fun e w' => e = .returned (.bool true) ∧ Below w.heap.size w w' := by
  have HAW := hide (opawake w hv)
  have HTX := fun (x : World) => hide (text_any x nm0 70 hs)
  rw [show ((70 : Nat) : Int) = 70 from rfl] at HTX
  obtain ⟨nm, hnm⟩ : ∃ nm, nm0.extract 0 (min nm0.size 70) = nm := ⟨_, rfl⟩
  have hnl : nm.size ≤ 70 := by rw [← hnm, ByteArray.size_extract]; omega
  rw [hnm] at HTX
  obtain ⟨k, hk⟩ : ∃ k : Nat, 1 + (m : Int) % 14 = (k : Int) := ⟨1 + m % 14, by omega⟩
  have hk1 : 1 ≤ k ∧ k ≤ 14 := by omega
  have HP := fun (x : World) => hide (parts_any x k (by omega))
  have HDA := fun (x : World) => hide (dec_any a x (by omega))
  have HDB := fun (x : World) => hide (dec_any b x (by omega))
  obtain ⟨wd, hwd⟩ : ∃ wd, ba (wordK k) = wd := ⟨_, rfl⟩
  obtain ⟨da, hda⟩ : ∃ da, ba (decL a) = da := ⟨_, rfl⟩
  obtain ⟨db, hdb⟩ : ∃ db, ba (decL b) = db := ⟨_, rfl⟩
  obtain ⟨fl, hfl⟩ : ∃ fl, ba (flagsK k) = fl := ⟨_, rfl⟩
  have hwl : wd.size ≤ 13 := by rw [← hwd, ba_size]; exact word_len k hk1.2
  have hal : da.size ≤ 20 := by rw [← hda, ba_size]; exact decL_20 (by omega)
  have hbl : db.size ≤ 20 := by rw [← hdb, ba_size]; exact decL_20 (by omega)
  rw [hwd, hfl] at HP
  rw [hda] at HDA
  rw [hdb] at HDB
  have hLs : wd.size ≤ 1000000 := by omega
  have HLs := Lib.hid hLs
  have HNL := Lib.hid hnl
  have HK1 := Lib.hid hk1
  have HWD := Lib.hid hwd
  have HDA0 := Lib.hid hda
  have HDB0 := Lib.hid hdb
  have HFL := Lib.hid hfl
  have HV := Lib.hid hv
  have HE := Lib.hid he
  have HBD := Lib.hid (And.intro ha hb)
  clear hwl hal hbl hLs hnl hk1 hwd hda hdb hfl hv he hnm hs
  go_enter Tryd.func4, Tryd.ntmps4
  go_wp2_with (first
    | (go_at_call 7; (with_reducible refine (unhide HAW).mono ?_); rintro e w1 ⟨rfl, hb1⟩; go_loud (
        have HBC := hide hb1;
        clear hb1))
    | (go_at_call 10; (with_reducible refine (unhide (HTX _)).mono ?_); rintro e w2 ⟨rfl, hw⟩; rw [← hw]; clear hw w2)
    | (go_at_call 8; (with_reducible refine (unhide (HP _)).mono ?_); rintro e w3 ⟨rfl, hb3⟩; go_loud (
        have HBC := hide (ridec hb3 (unhide HBC));
        clear hb3))
    | (go_at_call 11; (with_reducible refine (unhide (HDA _)).mono ?_); rintro e w4 ⟨rfl, hw⟩; rw [← hw]; clear hw w4)
    | (go_at_call 11; (with_reducible refine (unhide (HDB _)).mono ?_); rintro e w4 ⟨rfl, hw⟩; rw [← hw]; clear hw w4))
  have HNM := fun (x : World) => hide (rname14_any x nm (by have := HNL.out; omega))
  refine (oread_any _ wd HLs.out (HV.out.below (unhide HBC)) (HE.out.below (unhide HBC))).mono ?_
  rintro e wr ⟨hbr, hres⟩
  have HBC := hide (ridec hbr (unhide HBC))
  clear hbr
  rcases hres with ⟨k2, a2, b2, s2, hk2, ha2, hb2, hs2, hr2, ht2, rfl⟩ | ⟨rfl, hno⟩
  · have HOW := fun (x : World) => hide (own_any x k2 a2 b2 s2)
    have HRR := fun (x : World) => hide (rright_any x k2 a2 b2 s2 hk2 (by omega))
    have HRX := fun (x : World) => hide (rtext_good x k2 a2 b2 s2 ha2 hb2 hr2)
    rw [hr2] at HRR
    rw [show ba (textO k2 a2 b2 (str s2)) = wd by rw [ht2, ba_str]] at HRX
    have hyy : (wd.toList == wd.toList) = true := beq_self_eq_true _
    unfold opV at *
    have HBY := hide (Below.refl (wr.alloc (.cells #[.int .u8 (k2 : Int), .int .u64 (a2 : Int), .int .u64 (b2 : Int), .string s2] 33)).heap.size (wr.alloc (.cells #[.int .u8 (k2 : Int), .int .u64 (a2 : Int), .int .u64 (b2 : Int), .string s2] 33)))
    by_cases hwq : (⟨#[]⟩ : ByteArray) = fl
    · have WQ := Lib.hid hwq
      have wq : ((⟨#[]⟩ : ByteArray).toList == fl.toList) = true := by rw [hwq]; exact beq_self_eq_true _
      clear hwq
      have hfl : str (⟨#[]⟩ : ByteArray) = flagsK k := by rw [WQ.out, ← HFL.out, str_ba (flags_byte k HK1.out.2)]
      have hABN := flags_tell_0 k HK1.out.2 HK1.out.1 hfl.symm
      exact absurd hABN (by decide)
    · have wq := toL_ne hwq
      have wq2 : (([] : List UInt8) == fl.toList) = false := by have h := wq; rw [Lib.toList_data (⟨#[]⟩ : ByteArray)] at h; exact h
      have wq3 : fl.toList.isEmpty = false := by rcases hq : fl.toList with _ | ⟨x, l⟩; (rw [hq] at wq2; cases wq2); rfl
      have wq4 : ¬ [] = fl.toList := fun e => by rw [← e] at wq3; cases wq3
      have wq5 : ¬ fl.toList = [] := fun e => wq4 e.symm
      clear hwq
      clear hr2 ht2
      go_wp2_with (first
        | (go_at_call 15; (with_reducible refine (unhide (HOW _)).mono ?_); rintro e w6 ⟨rfl, hb⟩; go_loud (have HBY := hide ((unhide HBY).trans (hb.mono (unhide HBY).size)); obtain ⟨z0, z1, z2, z3⟩ := box4 (unhide HBY); clear hb))
        | (go_at_call 14; (with_reducible refine (unhide (HRR _)).mono ?_); rintro e w7 ⟨rfl, hb⟩; go_loud (have HBY := hide ((unhide HBY).trans (hb.mono (unhide HBY).size)); obtain ⟨z0, z1, z2, z3⟩ := box4 (unhide HBY); clear hb))
        | (go_at_call 16; (with_reducible refine (unhide (HRX _)).mono ?_); rintro e w8 ⟨rfl, hb⟩; go_loud (have HBY := hide ((unhide HBY).trans (hb.mono (unhide HBY).size)); obtain ⟨z0, z1, z2, z3⟩ := box4 (unhide HBY); clear hb)))
      all_goals (go_ret; exact ⟨rfl, ridec (unhide HBY) ((unhide HBC).alloc (unhide HBC).size _)⟩)
  · rw [show opV 0 0 0 ⟨#[]⟩ = .agg #[.int .u8 0, .int .u64 0, .int .u64 0, .string ⟨#[]⟩] from rfl]
    have HBY := hide (Below.refl (wr.alloc (.cells #[.int .u8 0, .int .u64 0, .int .u64 0, .string ⟨#[]⟩] 33)).heap.size (wr.alloc (.cells #[.int .u8 0, .int .u64 0, .int .u64 0, .string ⟨#[]⟩] 33)))
    by_cases hwq : (⟨#[]⟩ : ByteArray) = fl
    · have WQ := Lib.hid hwq
      have wq : ((⟨#[]⟩ : ByteArray).toList == fl.toList) = true := by rw [hwq]; exact beq_self_eq_true _
      clear hwq
      have hfl : str (⟨#[]⟩ : ByteArray) = flagsK k := by rw [WQ.out, ← HFL.out, str_ba (flags_byte k HK1.out.2)]
      have hABN := flags_tell_0 k HK1.out.2 HK1.out.1 hfl.symm
      exact absurd hABN (by decide)
    · have wq := toL_ne hwq
      have wq2 : (([] : List UInt8) == fl.toList) = false := by have h := wq; rw [Lib.toList_data (⟨#[]⟩ : ByteArray)] at h; exact h
      have wq3 : fl.toList.isEmpty = false := by rcases hq : fl.toList with _ | ⟨x, l⟩; (rw [hq] at wq2; cases wq2); rfl
      have wq4 : ¬ [] = fl.toList := fun e => by rw [← e] at wq3; cases wq3
      have wq5 : ¬ fl.toList = [] := fun e => wq4 e.symm
      clear hwq
      clear hno
      go_wp2
      all_goals (go_ret; exact ⟨rfl, ridec (unhide HBY) ((unhide HBC).alloc (unhide HBC).size _)⟩)
set_option maxRecDepth 100000 in
set_option maxHeartbeats 4000000 in
theorem reads_1 (w : World) (m a b h : Nat) (nm0 : ByteArray) (hm : m < 256) (ha : a < 4294967296) (hb : b < 4294967296) (hh : h < 256) (hs : nm0.size ≤ 9223372036854775807) (hv : Vo w) (he : Ve w)
    (h1 : ((h : Int) % 2 == 1) = false) (h2 : ((h : Int) / 2 % 2 == 1) = false) (h3 : ((h : Int) / 4 % 2 == 1) = true) (g1 : ((h : Int) % 2 == 0) = true) (g2 : ((h : Int) / 2 % 2 == 0) = true) (g3 : ((h : Int) / 4 % 2 == 0) = false) :
    Calls Tryd.prog 4 #[.int .u8 (m : Int), .int .u32 (a : Int), .int .u32 (b : Int), .string nm0, .int .u8 (h : Int)] w fun e w' => e = .returned (.bool true) ∧ Below w.heap.size w w' := by
  have HAW := hide (opawake w hv)
  have HTX := fun (x : World) => hide (text_any x nm0 70 hs)
  rw [show ((70 : Nat) : Int) = 70 from rfl] at HTX
  obtain ⟨nm, hnm⟩ : ∃ nm, nm0.extract 0 (min nm0.size 70) = nm := ⟨_, rfl⟩
  have hnl : nm.size ≤ 70 := by rw [← hnm, ByteArray.size_extract]; omega
  rw [hnm] at HTX
  obtain ⟨k, hk⟩ : ∃ k : Nat, 1 + (m : Int) % 14 = (k : Int) := ⟨1 + m % 14, by omega⟩
  have hk1 : 1 ≤ k ∧ k ≤ 14 := by omega
  have HP := fun (x : World) => hide (parts_any x k (by omega))
  have HDA := fun (x : World) => hide (dec_any a x (by omega))
  have HDB := fun (x : World) => hide (dec_any b x (by omega))
  obtain ⟨wd, hwd⟩ : ∃ wd, ba (wordK k) = wd := ⟨_, rfl⟩
  obtain ⟨da, hda⟩ : ∃ da, ba (decL a) = da := ⟨_, rfl⟩
  obtain ⟨db, hdb⟩ : ∃ db, ba (decL b) = db := ⟨_, rfl⟩
  obtain ⟨fl, hfl⟩ : ∃ fl, ba (flagsK k) = fl := ⟨_, rfl⟩
  have hwl : wd.size ≤ 13 := by rw [← hwd, ba_size]; exact word_len k hk1.2
  have hal : da.size ≤ 20 := by rw [← hda, ba_size]; exact decL_20 (by omega)
  have hbl : db.size ≤ 20 := by rw [← hdb, ba_size]; exact decL_20 (by omega)
  rw [hwd, hfl] at HP
  rw [hda] at HDA
  rw [hdb] at HDB
  obtain ⟨x2, hx2⟩ : ∃ x, wd ++ (⟨#[32]⟩ : ByteArray) = x := ⟨_, rfl⟩
  obtain ⟨y2, hy2⟩ : ∃ y, x2 ++ nm = y := ⟨_, rfl⟩
  have zx2 : x2.size = wd.size + 1 := by rw [← hx2, ByteArray.size_append]; rfl
  have zy2 : y2.size = x2.size + nm.size := by rw [← hy2, ByteArray.size_append]
  have c2 : ¬ 9223372036854775807 < wd.size + (⟨#[32]⟩ : ByteArray).size := by rw [show (⟨#[32]⟩ : ByteArray).size = 1 from rfl]; omega
  have d2 : ¬ 9223372036854775807 < wd.size + 1 := by omega
  have e2 : ¬ 9223372036854775807 < x2.size + nm.size := by omega
  have HX2 := Lib.hid hx2
  have HY2 := Lib.hid hy2
  obtain ⟨wn, hwn⟩ : ∃ wn, (⟨#[78]⟩ : ByteArray) = wn := ⟨_, rfl⟩
  have w2 : (⟨#[]⟩ : ByteArray) ++ ⟨#[78]⟩ = wn := hwn
  have HWN := Lib.hid hwn
  clear hwn
  have hLs : y2.size ≤ 1000000 := by omega
  have HLs := Lib.hid hLs
  have HNL := Lib.hid hnl
  have HK1 := Lib.hid hk1
  have HWD := Lib.hid hwd
  have HDA0 := Lib.hid hda
  have HDB0 := Lib.hid hdb
  have HFL := Lib.hid hfl
  have HV := Lib.hid hv
  have HE := Lib.hid he
  have HBD := Lib.hid (And.intro ha hb)
  clear hwl hal hbl hLs hnl hk1 hwd hda hdb hfl hv he hnm hs zx2 zy2
  go_enter Tryd.func4, Tryd.ntmps4
  go_wp2_with (first
    | (go_at_call 7; (with_reducible refine (unhide HAW).mono ?_); rintro e w1 ⟨rfl, hb1⟩; go_loud (
        have HBC := hide hb1;
        clear hb1))
    | (go_at_call 10; (with_reducible refine (unhide (HTX _)).mono ?_); rintro e w2 ⟨rfl, hw⟩; rw [← hw]; clear hw w2)
    | (go_at_call 8; (with_reducible refine (unhide (HP _)).mono ?_); rintro e w3 ⟨rfl, hb3⟩; go_loud (
        have HBC := hide (ridec hb3 (unhide HBC));
        clear hb3))
    | (go_at_call 11; (with_reducible refine (unhide (HDA _)).mono ?_); rintro e w4 ⟨rfl, hw⟩; rw [← hw]; clear hw w4)
    | (go_at_call 11; (with_reducible refine (unhide (HDB _)).mono ?_); rintro e w4 ⟨rfl, hw⟩; rw [← hw]; clear hw w4))
  have HNM := fun (x : World) => hide (rname14_any x nm (by have := HNL.out; omega))
  refine (oread_any _ y2 HLs.out (HV.out.below (unhide HBC)) (HE.out.below (unhide HBC))).mono ?_
  rintro e wr ⟨hbr, hres⟩
  have HBC := hide (ridec hbr (unhide HBC))
  clear hbr
  rcases hres with ⟨k2, a2, b2, s2, hk2, ha2, hb2, hs2, hr2, ht2, rfl⟩ | ⟨rfl, hno⟩
  · have HOW := fun (x : World) => hide (own_any x k2 a2 b2 s2)
    have HRR := fun (x : World) => hide (rright_any x k2 a2 b2 s2 hk2 (by omega))
    have HRX := fun (x : World) => hide (rtext_good x k2 a2 b2 s2 ha2 hb2 hr2)
    rw [hr2] at HRR
    rw [show ba (textO k2 a2 b2 (str s2)) = y2 by rw [ht2, ba_str]] at HRX
    have hyy : (y2.toList == y2.toList) = true := beq_self_eq_true _
    unfold opV at *
    have HBY := hide (Below.refl (wr.alloc (.cells #[.int .u8 (k2 : Int), .int .u64 (a2 : Int), .int .u64 (b2 : Int), .string s2] 33)).heap.size (wr.alloc (.cells #[.int .u8 (k2 : Int), .int .u64 (a2 : Int), .int .u64 (b2 : Int), .string s2] 33)))
    by_cases hwq : wn = fl
    · have WQ := Lib.hid (HWN.out.trans hwq)
      have wq : (wn.toList == fl.toList) = true := by rw [hwq]; exact beq_self_eq_true _
      clear hwq
      rcases hnq : isNm (str nm) with _ | _
      · rw [hnq] at HNM
        clear hnq
        clear hr2 ht2
        go_wp2_with (first
          | (go_at_call 13; (with_reducible refine (unhide (HNM _)).mono ?_); rintro e w5 ⟨rfl, hb⟩; go_loud (have HBY := hide ((unhide HBY).trans (hb.mono (unhide HBY).size)); obtain ⟨z0, z1, z2, z3⟩ := box4 (unhide HBY); clear hb))
          | (go_at_call 15; (with_reducible refine (unhide (HOW _)).mono ?_); rintro e w6 ⟨rfl, hb⟩; go_loud (have HBY := hide ((unhide HBY).trans (hb.mono (unhide HBY).size)); obtain ⟨z0, z1, z2, z3⟩ := box4 (unhide HBY); clear hb))
          | (go_at_call 14; (with_reducible refine (unhide (HRR _)).mono ?_); rintro e w7 ⟨rfl, hb⟩; go_loud (have HBY := hide ((unhide HBY).trans (hb.mono (unhide HBY).size)); obtain ⟨z0, z1, z2, z3⟩ := box4 (unhide HBY); clear hb))
          | (go_at_call 16; (with_reducible refine (unhide (HRX _)).mono ?_); rintro e w8 ⟨rfl, hb⟩; go_loud (have HBY := hide ((unhide HBY).trans (hb.mono (unhide HBY).size)); obtain ⟨z0, z1, z2, z3⟩ := box4 (unhide HBY); clear hb)))
        all_goals (go_ret; exact ⟨rfl, ridec (unhide HBY) ((unhide HBC).alloc (unhide HBC).size _)⟩)
      · rw [hnq] at HNM
        have NQ := Lib.hid hnq
        clear hnq
        have hfl : str (⟨#[78]⟩ : ByteArray) = flagsK k := by rw [WQ.out, ← HFL.out, str_ba (flags_byte k HK1.out.2)]
        have hABN := flags_tell_1 k HK1.out.2 HK1.out.1 hfl.symm
        obtain ⟨hA, hB, hN⟩ := hABN
        have hR : rightO k 0 0 (str nm) = true := by
          unfold rightO
          rw [decide_eq_true HK1.out, hA, hB, hN]
          skip
          skip
          rw [NQ.out]
          rfl
        have hT : textO k 0 0 (str nm) = str y2 := by
          rw [← HY2.out, str_append, ← HX2.out, str_append, sp_str, ← HWD.out, str_ba (word_byte k HK1.out.2)]
          unfold textO partsO optL
          rw [hA, hB, hN]
          simp [joinT]
        have hal : 0 < 18446744073709551616 := by have := HBD.out; omega
        have hbl : 0 < 18446744073709551616 := by have := HBD.out; omega
        have hkk := (textO_inj hr2 hR ha2 hb2 hal hbl (ht2.trans hT.symm)).1
        have hk2k : ((k2 : Int) == (k : Int)) = true := by rw [beq_iff_eq, hkk]
        clear hR hT hA hB hN hfl hkk hal hbl
        clear hr2 ht2
        go_wp2_with (first
          | (go_at_call 13; (with_reducible refine (unhide (HNM _)).mono ?_); rintro e w5 ⟨rfl, hb⟩; go_loud (have HBY := hide ((unhide HBY).trans (hb.mono (unhide HBY).size)); obtain ⟨z0, z1, z2, z3⟩ := box4 (unhide HBY); clear hb))
          | (go_at_call 15; (with_reducible refine (unhide (HOW _)).mono ?_); rintro e w6 ⟨rfl, hb⟩; go_loud (have HBY := hide ((unhide HBY).trans (hb.mono (unhide HBY).size)); obtain ⟨z0, z1, z2, z3⟩ := box4 (unhide HBY); clear hb))
          | (go_at_call 14; (with_reducible refine (unhide (HRR _)).mono ?_); rintro e w7 ⟨rfl, hb⟩; go_loud (have HBY := hide ((unhide HBY).trans (hb.mono (unhide HBY).size)); obtain ⟨z0, z1, z2, z3⟩ := box4 (unhide HBY); clear hb))
          | (go_at_call 16; (with_reducible refine (unhide (HRX _)).mono ?_); rintro e w8 ⟨rfl, hb⟩; go_loud (have HBY := hide ((unhide HBY).trans (hb.mono (unhide HBY).size)); obtain ⟨z0, z1, z2, z3⟩ := box4 (unhide HBY); clear hb)))
        all_goals (go_ret; exact ⟨rfl, ridec (unhide HBY) ((unhide HBC).alloc (unhide HBC).size _)⟩)
    · have wq := toL_ne hwq
      clear hwq
      clear hr2 ht2
      go_wp2_with (first
        | (go_at_call 15; (with_reducible refine (unhide (HOW _)).mono ?_); rintro e w6 ⟨rfl, hb⟩; go_loud (have HBY := hide ((unhide HBY).trans (hb.mono (unhide HBY).size)); obtain ⟨z0, z1, z2, z3⟩ := box4 (unhide HBY); clear hb))
        | (go_at_call 14; (with_reducible refine (unhide (HRR _)).mono ?_); rintro e w7 ⟨rfl, hb⟩; go_loud (have HBY := hide ((unhide HBY).trans (hb.mono (unhide HBY).size)); obtain ⟨z0, z1, z2, z3⟩ := box4 (unhide HBY); clear hb))
        | (go_at_call 16; (with_reducible refine (unhide (HRX _)).mono ?_); rintro e w8 ⟨rfl, hb⟩; go_loud (have HBY := hide ((unhide HBY).trans (hb.mono (unhide HBY).size)); obtain ⟨z0, z1, z2, z3⟩ := box4 (unhide HBY); clear hb)))
      all_goals (go_ret; exact ⟨rfl, ridec (unhide HBY) ((unhide HBC).alloc (unhide HBC).size _)⟩)
  · rw [show opV 0 0 0 ⟨#[]⟩ = .agg #[.int .u8 0, .int .u64 0, .int .u64 0, .string ⟨#[]⟩] from rfl]
    have HBY := hide (Below.refl (wr.alloc (.cells #[.int .u8 0, .int .u64 0, .int .u64 0, .string ⟨#[]⟩] 33)).heap.size (wr.alloc (.cells #[.int .u8 0, .int .u64 0, .int .u64 0, .string ⟨#[]⟩] 33)))
    by_cases hwq : wn = fl
    · have WQ := Lib.hid (HWN.out.trans hwq)
      have wq : (wn.toList == fl.toList) = true := by rw [hwq]; exact beq_self_eq_true _
      clear hwq
      rcases hnq : isNm (str nm) with _ | _
      · rw [hnq] at HNM
        clear hnq
        clear hno
        go_wp2_with (first
          | (go_at_call 13; (with_reducible refine (unhide (HNM _)).mono ?_); rintro e w5 ⟨rfl, hb⟩; go_loud (have HBY := hide ((unhide HBY).trans (hb.mono (unhide HBY).size)); obtain ⟨z0, z1, z2, z3⟩ := box4 (unhide HBY); clear hb)))
        all_goals (go_ret; exact ⟨rfl, ridec (unhide HBY) ((unhide HBC).alloc (unhide HBC).size _)⟩)
      · rw [hnq] at HNM
        have NQ := Lib.hid hnq
        clear hnq
        have hfl : str (⟨#[78]⟩ : ByteArray) = flagsK k := by rw [WQ.out, ← HFL.out, str_ba (flags_byte k HK1.out.2)]
        have hABN := flags_tell_1 k HK1.out.2 HK1.out.1 hfl.symm
        obtain ⟨hA, hB, hN⟩ := hABN
        have hR : rightO k 0 0 (str nm) = true := by
          unfold rightO
          rw [decide_eq_true HK1.out, hA, hB, hN]
          skip
          skip
          rw [NQ.out]
          rfl
        have hT : textO k 0 0 (str nm) = str y2 := by
          rw [← HY2.out, str_append, ← HX2.out, str_append, sp_str, ← HWD.out, str_ba (word_byte k HK1.out.2)]
          unfold textO partsO optL
          rw [hA, hB, hN]
          simp [joinT]
        have hal : 0 < 18446744073709551616 := by have := HBD.out; omega
        have hbl : 0 < 18446744073709551616 := by have := HBD.out; omega
        exact absurd hT (hno k 0 0 nm hal hbl hR)
    · have wq := toL_ne hwq
      clear hwq
      clear hno
      go_wp2
      all_goals (go_ret; exact ⟨rfl, ridec (unhide HBY) ((unhide HBC).alloc (unhide HBC).size _)⟩)
set_option maxRecDepth 100000 in
set_option maxHeartbeats 4000000 in
theorem reads_2 (w : World) (m a b h : Nat) (nm0 : ByteArray) (hm : m < 256) (ha : a < 4294967296) (hb : b < 4294967296) (hh : h < 256) (hs : nm0.size ≤ 9223372036854775807) (hv : Vo w) (he : Ve w)
    (h1 : ((h : Int) % 2 == 1) = false) (h2 : ((h : Int) / 2 % 2 == 1) = true) (h3 : ((h : Int) / 4 % 2 == 1) = false) (g1 : ((h : Int) % 2 == 0) = true) (g2 : ((h : Int) / 2 % 2 == 0) = false) (g3 : ((h : Int) / 4 % 2 == 0) = true) :
    Calls Tryd.prog 4 #[.int .u8 (m : Int), .int .u32 (a : Int), .int .u32 (b : Int), .string nm0, .int .u8 (h : Int)] w fun e w' => e = .returned (.bool true) ∧ Below w.heap.size w w' := by
  have HAW := hide (opawake w hv)
  have HTX := fun (x : World) => hide (text_any x nm0 70 hs)
  rw [show ((70 : Nat) : Int) = 70 from rfl] at HTX
  obtain ⟨nm, hnm⟩ : ∃ nm, nm0.extract 0 (min nm0.size 70) = nm := ⟨_, rfl⟩
  have hnl : nm.size ≤ 70 := by rw [← hnm, ByteArray.size_extract]; omega
  rw [hnm] at HTX
  obtain ⟨k, hk⟩ : ∃ k : Nat, 1 + (m : Int) % 14 = (k : Int) := ⟨1 + m % 14, by omega⟩
  have hk1 : 1 ≤ k ∧ k ≤ 14 := by omega
  have HP := fun (x : World) => hide (parts_any x k (by omega))
  have HDA := fun (x : World) => hide (dec_any a x (by omega))
  have HDB := fun (x : World) => hide (dec_any b x (by omega))
  obtain ⟨wd, hwd⟩ : ∃ wd, ba (wordK k) = wd := ⟨_, rfl⟩
  obtain ⟨da, hda⟩ : ∃ da, ba (decL a) = da := ⟨_, rfl⟩
  obtain ⟨db, hdb⟩ : ∃ db, ba (decL b) = db := ⟨_, rfl⟩
  obtain ⟨fl, hfl⟩ : ∃ fl, ba (flagsK k) = fl := ⟨_, rfl⟩
  have hwl : wd.size ≤ 13 := by rw [← hwd, ba_size]; exact word_len k hk1.2
  have hal : da.size ≤ 20 := by rw [← hda, ba_size]; exact decL_20 (by omega)
  have hbl : db.size ≤ 20 := by rw [← hdb, ba_size]; exact decL_20 (by omega)
  rw [hwd, hfl] at HP
  rw [hda] at HDA
  rw [hdb] at HDB
  obtain ⟨x1, hx1⟩ : ∃ x, wd ++ (⟨#[32]⟩ : ByteArray) = x := ⟨_, rfl⟩
  obtain ⟨y1, hy1⟩ : ∃ y, x1 ++ db = y := ⟨_, rfl⟩
  have zx1 : x1.size = wd.size + 1 := by rw [← hx1, ByteArray.size_append]; rfl
  have zy1 : y1.size = x1.size + db.size := by rw [← hy1, ByteArray.size_append]
  have c1 : ¬ 9223372036854775807 < wd.size + (⟨#[32]⟩ : ByteArray).size := by rw [show (⟨#[32]⟩ : ByteArray).size = 1 from rfl]; omega
  have d1 : ¬ 9223372036854775807 < wd.size + 1 := by omega
  have e1 : ¬ 9223372036854775807 < x1.size + db.size := by omega
  have HX1 := Lib.hid hx1
  have HY1 := Lib.hid hy1
  obtain ⟨wn, hwn⟩ : ∃ wn, (⟨#[66]⟩ : ByteArray) = wn := ⟨_, rfl⟩
  have w1 : (⟨#[]⟩ : ByteArray) ++ ⟨#[66]⟩ = wn := hwn
  have HWN := Lib.hid hwn
  clear hwn
  have hLs : y1.size ≤ 1000000 := by omega
  have HLs := Lib.hid hLs
  have HNL := Lib.hid hnl
  have HK1 := Lib.hid hk1
  have HWD := Lib.hid hwd
  have HDA0 := Lib.hid hda
  have HDB0 := Lib.hid hdb
  have HFL := Lib.hid hfl
  have HV := Lib.hid hv
  have HE := Lib.hid he
  have HBD := Lib.hid (And.intro ha hb)
  clear hwl hal hbl hLs hnl hk1 hwd hda hdb hfl hv he hnm hs zx1 zy1
  go_enter Tryd.func4, Tryd.ntmps4
  go_wp2_with (first
    | (go_at_call 7; (with_reducible refine (unhide HAW).mono ?_); rintro e w1 ⟨rfl, hb1⟩; go_loud (
        have HBC := hide hb1;
        clear hb1))
    | (go_at_call 10; (with_reducible refine (unhide (HTX _)).mono ?_); rintro e w2 ⟨rfl, hw⟩; rw [← hw]; clear hw w2)
    | (go_at_call 8; (with_reducible refine (unhide (HP _)).mono ?_); rintro e w3 ⟨rfl, hb3⟩; go_loud (
        have HBC := hide (ridec hb3 (unhide HBC));
        clear hb3))
    | (go_at_call 11; (with_reducible refine (unhide (HDA _)).mono ?_); rintro e w4 ⟨rfl, hw⟩; rw [← hw]; clear hw w4)
    | (go_at_call 11; (with_reducible refine (unhide (HDB _)).mono ?_); rintro e w4 ⟨rfl, hw⟩; rw [← hw]; clear hw w4))
  have HNM := fun (x : World) => hide (rname14_any x nm (by have := HNL.out; omega))
  refine (oread_any _ y1 HLs.out (HV.out.below (unhide HBC)) (HE.out.below (unhide HBC))).mono ?_
  rintro e wr ⟨hbr, hres⟩
  have HBC := hide (ridec hbr (unhide HBC))
  clear hbr
  rcases hres with ⟨k2, a2, b2, s2, hk2, ha2, hb2, hs2, hr2, ht2, rfl⟩ | ⟨rfl, hno⟩
  · have HOW := fun (x : World) => hide (own_any x k2 a2 b2 s2)
    have HRR := fun (x : World) => hide (rright_any x k2 a2 b2 s2 hk2 (by omega))
    have HRX := fun (x : World) => hide (rtext_good x k2 a2 b2 s2 ha2 hb2 hr2)
    rw [hr2] at HRR
    rw [show ba (textO k2 a2 b2 (str s2)) = y1 by rw [ht2, ba_str]] at HRX
    have hyy : (y1.toList == y1.toList) = true := beq_self_eq_true _
    unfold opV at *
    have HBY := hide (Below.refl (wr.alloc (.cells #[.int .u8 (k2 : Int), .int .u64 (a2 : Int), .int .u64 (b2 : Int), .string s2] 33)).heap.size (wr.alloc (.cells #[.int .u8 (k2 : Int), .int .u64 (a2 : Int), .int .u64 (b2 : Int), .string s2] 33)))
    by_cases hwq : wn = fl
    · have WQ := Lib.hid (HWN.out.trans hwq)
      have wq : (wn.toList == fl.toList) = true := by rw [hwq]; exact beq_self_eq_true _
      clear hwq
      by_cases hb0 : 0 < b
      · have B0 := Lib.hid hb0
        have b01 : decide ((0 : Int) < (b : Int)) = true := decide_eq_true (by omega)
        have b02 : decide (0 < b) = true := decide_eq_true (by omega)
        have hfl : str (⟨#[66]⟩ : ByteArray) = flagsK k := by rw [WQ.out, ← HFL.out, str_ba (flags_byte k HK1.out.2)]
        have hABN := flags_tell_2 k HK1.out.2 HK1.out.1 hfl.symm
        exact absurd hABN (by decide)
      · have b01 : decide ((0 : Int) < (b : Int)) = false := decide_eq_false (by omega)
        have b02 : decide (0 < b) = false := decide_eq_false (by omega)
        obtain rfl : b = 0 := by omega
        clear hb0
        clear hr2 ht2
        go_wp2_with (first
          | (go_at_call 15; (with_reducible refine (unhide (HOW _)).mono ?_); rintro e w6 ⟨rfl, hb⟩; go_loud (have HBY := hide ((unhide HBY).trans (hb.mono (unhide HBY).size)); obtain ⟨z0, z1, z2, z3⟩ := box4 (unhide HBY); clear hb))
          | (go_at_call 14; (with_reducible refine (unhide (HRR _)).mono ?_); rintro e w7 ⟨rfl, hb⟩; go_loud (have HBY := hide ((unhide HBY).trans (hb.mono (unhide HBY).size)); obtain ⟨z0, z1, z2, z3⟩ := box4 (unhide HBY); clear hb))
          | (go_at_call 16; (with_reducible refine (unhide (HRX _)).mono ?_); rintro e w8 ⟨rfl, hb⟩; go_loud (have HBY := hide ((unhide HBY).trans (hb.mono (unhide HBY).size)); obtain ⟨z0, z1, z2, z3⟩ := box4 (unhide HBY); clear hb)))
        all_goals (go_ret; exact ⟨rfl, ridec (unhide HBY) ((unhide HBC).alloc (unhide HBC).size _)⟩)
    · have wq := toL_ne hwq
      clear hwq
      clear hr2 ht2
      go_wp2_with (first
        | (go_at_call 15; (with_reducible refine (unhide (HOW _)).mono ?_); rintro e w6 ⟨rfl, hb⟩; go_loud (have HBY := hide ((unhide HBY).trans (hb.mono (unhide HBY).size)); obtain ⟨z0, z1, z2, z3⟩ := box4 (unhide HBY); clear hb))
        | (go_at_call 14; (with_reducible refine (unhide (HRR _)).mono ?_); rintro e w7 ⟨rfl, hb⟩; go_loud (have HBY := hide ((unhide HBY).trans (hb.mono (unhide HBY).size)); obtain ⟨z0, z1, z2, z3⟩ := box4 (unhide HBY); clear hb))
        | (go_at_call 16; (with_reducible refine (unhide (HRX _)).mono ?_); rintro e w8 ⟨rfl, hb⟩; go_loud (have HBY := hide ((unhide HBY).trans (hb.mono (unhide HBY).size)); obtain ⟨z0, z1, z2, z3⟩ := box4 (unhide HBY); clear hb)))
      all_goals (go_ret; exact ⟨rfl, ridec (unhide HBY) ((unhide HBC).alloc (unhide HBC).size _)⟩)
  · rw [show opV 0 0 0 ⟨#[]⟩ = .agg #[.int .u8 0, .int .u64 0, .int .u64 0, .string ⟨#[]⟩] from rfl]
    have HBY := hide (Below.refl (wr.alloc (.cells #[.int .u8 0, .int .u64 0, .int .u64 0, .string ⟨#[]⟩] 33)).heap.size (wr.alloc (.cells #[.int .u8 0, .int .u64 0, .int .u64 0, .string ⟨#[]⟩] 33)))
    by_cases hwq : wn = fl
    · have WQ := Lib.hid (HWN.out.trans hwq)
      have wq : (wn.toList == fl.toList) = true := by rw [hwq]; exact beq_self_eq_true _
      clear hwq
      by_cases hb0 : 0 < b
      · have B0 := Lib.hid hb0
        have b01 : decide ((0 : Int) < (b : Int)) = true := decide_eq_true (by omega)
        have b02 : decide (0 < b) = true := decide_eq_true (by omega)
        have hfl : str (⟨#[66]⟩ : ByteArray) = flagsK k := by rw [WQ.out, ← HFL.out, str_ba (flags_byte k HK1.out.2)]
        have hABN := flags_tell_2 k HK1.out.2 HK1.out.1 hfl.symm
        exact absurd hABN (by decide)
      · have b01 : decide ((0 : Int) < (b : Int)) = false := decide_eq_false (by omega)
        have b02 : decide (0 < b) = false := decide_eq_false (by omega)
        obtain rfl : b = 0 := by omega
        clear hb0
        clear hno
        go_wp2
        all_goals (go_ret; exact ⟨rfl, ridec (unhide HBY) ((unhide HBC).alloc (unhide HBC).size _)⟩)
    · have wq := toL_ne hwq
      clear hwq
      clear hno
      go_wp2
      all_goals (go_ret; exact ⟨rfl, ridec (unhide HBY) ((unhide HBC).alloc (unhide HBC).size _)⟩)
end Go.Proofs.YtblchmcnbcfaaaaDoor
namespace Go.Proofs.YtblchmcnbcfaaaaDoor
open Go.RowKit
set_option linter.unusedVariables false
set_option linter.unusedSimpArgs false
set_option maxRecDepth 100000 in
set_option maxHeartbeats 4000000 in
theorem reads_3 (w : World) (m a b h : Nat) (nm0 : ByteArray) (hm : m < 256) (ha : a < 4294967296) (hb : b < 4294967296) (hh : h < 256) (hs : nm0.size ≤ 9223372036854775807) (hv : Vo w) (he : Ve w)
    (h1 : ((h : Int) % 2 == 1) = false) (h2 : ((h : Int) / 2 % 2 == 1) = true) (h3 : ((h : Int) / 4 % 2 == 1) = true) (g1 : ((h : Int) % 2 == 0) = true) (g2 : ((h : Int) / 2 % 2 == 0) = false) (g3 : ((h : Int) / 4 % 2 == 0) = false) :
    Calls Tryd.prog 4 #[.int .u8 (m : Int), .int .u32 (a : Int), .int .u32 (b : Int), .string nm0, .int .u8 (h : Int)] w fun e w' => e = .returned (.bool true) ∧ Below w.heap.size w w' := by
  have HAW := hide (opawake w hv)
  have HTX := fun (x : World) => hide (text_any x nm0 70 hs)
  rw [show ((70 : Nat) : Int) = 70 from rfl] at HTX
  obtain ⟨nm, hnm⟩ : ∃ nm, nm0.extract 0 (min nm0.size 70) = nm := ⟨_, rfl⟩
  have hnl : nm.size ≤ 70 := by rw [← hnm, ByteArray.size_extract]; omega
  rw [hnm] at HTX
  obtain ⟨k, hk⟩ : ∃ k : Nat, 1 + (m : Int) % 14 = (k : Int) := ⟨1 + m % 14, by omega⟩
  have hk1 : 1 ≤ k ∧ k ≤ 14 := by omega
  have HP := fun (x : World) => hide (parts_any x k (by omega))
  have HDA := fun (x : World) => hide (dec_any a x (by omega))
  have HDB := fun (x : World) => hide (dec_any b x (by omega))
  obtain ⟨wd, hwd⟩ : ∃ wd, ba (wordK k) = wd := ⟨_, rfl⟩
  obtain ⟨da, hda⟩ : ∃ da, ba (decL a) = da := ⟨_, rfl⟩
  obtain ⟨db, hdb⟩ : ∃ db, ba (decL b) = db := ⟨_, rfl⟩
  obtain ⟨fl, hfl⟩ : ∃ fl, ba (flagsK k) = fl := ⟨_, rfl⟩
  have hwl : wd.size ≤ 13 := by rw [← hwd, ba_size]; exact word_len k hk1.2
  have hal : da.size ≤ 20 := by rw [← hda, ba_size]; exact decL_20 (by omega)
  have hbl : db.size ≤ 20 := by rw [← hdb, ba_size]; exact decL_20 (by omega)
  rw [hwd, hfl] at HP
  rw [hda] at HDA
  rw [hdb] at HDB
  obtain ⟨x1, hx1⟩ : ∃ x, wd ++ (⟨#[32]⟩ : ByteArray) = x := ⟨_, rfl⟩
  obtain ⟨y1, hy1⟩ : ∃ y, x1 ++ db = y := ⟨_, rfl⟩
  have zx1 : x1.size = wd.size + 1 := by rw [← hx1, ByteArray.size_append]; rfl
  have zy1 : y1.size = x1.size + db.size := by rw [← hy1, ByteArray.size_append]
  have c1 : ¬ 9223372036854775807 < wd.size + (⟨#[32]⟩ : ByteArray).size := by rw [show (⟨#[32]⟩ : ByteArray).size = 1 from rfl]; omega
  have d1 : ¬ 9223372036854775807 < wd.size + 1 := by omega
  have e1 : ¬ 9223372036854775807 < x1.size + db.size := by omega
  have HX1 := Lib.hid hx1
  have HY1 := Lib.hid hy1
  obtain ⟨x2, hx2⟩ : ∃ x, y1 ++ (⟨#[32]⟩ : ByteArray) = x := ⟨_, rfl⟩
  obtain ⟨y2, hy2⟩ : ∃ y, x2 ++ nm = y := ⟨_, rfl⟩
  have zx2 : x2.size = y1.size + 1 := by rw [← hx2, ByteArray.size_append]; rfl
  have zy2 : y2.size = x2.size + nm.size := by rw [← hy2, ByteArray.size_append]
  have c2 : ¬ 9223372036854775807 < y1.size + (⟨#[32]⟩ : ByteArray).size := by rw [show (⟨#[32]⟩ : ByteArray).size = 1 from rfl]; omega
  have d2 : ¬ 9223372036854775807 < y1.size + 1 := by omega
  have e2 : ¬ 9223372036854775807 < x2.size + nm.size := by omega
  have HX2 := Lib.hid hx2
  have HY2 := Lib.hid hy2
  have w1 : (⟨#[]⟩ : ByteArray) ++ ⟨#[66]⟩ = ⟨#[66]⟩ := rfl
  obtain ⟨wn, hwn⟩ : ∃ wn, (⟨#[66, 78]⟩ : ByteArray) = wn := ⟨_, rfl⟩
  have w2 : (⟨#[66]⟩ : ByteArray) ++ ⟨#[78]⟩ = wn := hwn
  have HWN := Lib.hid hwn
  clear hwn
  have hLs : y2.size ≤ 1000000 := by omega
  have HLs := Lib.hid hLs
  have HNL := Lib.hid hnl
  have HK1 := Lib.hid hk1
  have HWD := Lib.hid hwd
  have HDA0 := Lib.hid hda
  have HDB0 := Lib.hid hdb
  have HFL := Lib.hid hfl
  have HV := Lib.hid hv
  have HE := Lib.hid he
  have HBD := Lib.hid (And.intro ha hb)
  clear hwl hal hbl hLs hnl hk1 hwd hda hdb hfl hv he hnm hs zx1 zy1 zx2 zy2
  go_enter Tryd.func4, Tryd.ntmps4
  go_wp2_with (first
    | (go_at_call 7; (with_reducible refine (unhide HAW).mono ?_); rintro e w1 ⟨rfl, hb1⟩; go_loud (
        have HBC := hide hb1;
        clear hb1))
    | (go_at_call 10; (with_reducible refine (unhide (HTX _)).mono ?_); rintro e w2 ⟨rfl, hw⟩; rw [← hw]; clear hw w2)
    | (go_at_call 8; (with_reducible refine (unhide (HP _)).mono ?_); rintro e w3 ⟨rfl, hb3⟩; go_loud (
        have HBC := hide (ridec hb3 (unhide HBC));
        clear hb3))
    | (go_at_call 11; (with_reducible refine (unhide (HDA _)).mono ?_); rintro e w4 ⟨rfl, hw⟩; rw [← hw]; clear hw w4)
    | (go_at_call 11; (with_reducible refine (unhide (HDB _)).mono ?_); rintro e w4 ⟨rfl, hw⟩; rw [← hw]; clear hw w4))
  have HNM := fun (x : World) => hide (rname14_any x nm (by have := HNL.out; omega))
  refine (oread_any _ y2 HLs.out (HV.out.below (unhide HBC)) (HE.out.below (unhide HBC))).mono ?_
  rintro e wr ⟨hbr, hres⟩
  have HBC := hide (ridec hbr (unhide HBC))
  clear hbr
  rcases hres with ⟨k2, a2, b2, s2, hk2, ha2, hb2, hs2, hr2, ht2, rfl⟩ | ⟨rfl, hno⟩
  · have HOW := fun (x : World) => hide (own_any x k2 a2 b2 s2)
    have HRR := fun (x : World) => hide (rright_any x k2 a2 b2 s2 hk2 (by omega))
    have HRX := fun (x : World) => hide (rtext_good x k2 a2 b2 s2 ha2 hb2 hr2)
    rw [hr2] at HRR
    rw [show ba (textO k2 a2 b2 (str s2)) = y2 by rw [ht2, ba_str]] at HRX
    have hyy : (y2.toList == y2.toList) = true := beq_self_eq_true _
    unfold opV at *
    have HBY := hide (Below.refl (wr.alloc (.cells #[.int .u8 (k2 : Int), .int .u64 (a2 : Int), .int .u64 (b2 : Int), .string s2] 33)).heap.size (wr.alloc (.cells #[.int .u8 (k2 : Int), .int .u64 (a2 : Int), .int .u64 (b2 : Int), .string s2] 33)))
    by_cases hwq : wn = fl
    · have WQ := Lib.hid (HWN.out.trans hwq)
      have wq : (wn.toList == fl.toList) = true := by rw [hwq]; exact beq_self_eq_true _
      clear hwq
      by_cases hb0 : 0 < b
      · have B0 := Lib.hid hb0
        have b01 : decide ((0 : Int) < (b : Int)) = true := decide_eq_true (by omega)
        have b02 : decide (0 < b) = true := decide_eq_true (by omega)
        rcases hnq : isNm (str nm) with _ | _
        · rw [hnq] at HNM
          clear hnq
          clear hr2 ht2
          go_wp2_with (first
            | (go_at_call 13; (with_reducible refine (unhide (HNM _)).mono ?_); rintro e w5 ⟨rfl, hb⟩; go_loud (have HBY := hide ((unhide HBY).trans (hb.mono (unhide HBY).size)); obtain ⟨z0, z1, z2, z3⟩ := box4 (unhide HBY); clear hb))
            | (go_at_call 15; (with_reducible refine (unhide (HOW _)).mono ?_); rintro e w6 ⟨rfl, hb⟩; go_loud (have HBY := hide ((unhide HBY).trans (hb.mono (unhide HBY).size)); obtain ⟨z0, z1, z2, z3⟩ := box4 (unhide HBY); clear hb))
            | (go_at_call 14; (with_reducible refine (unhide (HRR _)).mono ?_); rintro e w7 ⟨rfl, hb⟩; go_loud (have HBY := hide ((unhide HBY).trans (hb.mono (unhide HBY).size)); obtain ⟨z0, z1, z2, z3⟩ := box4 (unhide HBY); clear hb))
            | (go_at_call 16; (with_reducible refine (unhide (HRX _)).mono ?_); rintro e w8 ⟨rfl, hb⟩; go_loud (have HBY := hide ((unhide HBY).trans (hb.mono (unhide HBY).size)); obtain ⟨z0, z1, z2, z3⟩ := box4 (unhide HBY); clear hb)))
          all_goals (go_ret; exact ⟨rfl, ridec (unhide HBY) ((unhide HBC).alloc (unhide HBC).size _)⟩)
        · rw [hnq] at HNM
          have NQ := Lib.hid hnq
          clear hnq
          have hfl : str (⟨#[66, 78]⟩ : ByteArray) = flagsK k := by rw [WQ.out, ← HFL.out, str_ba (flags_byte k HK1.out.2)]
          have hABN := flags_tell_3 k HK1.out.2 HK1.out.1 hfl.symm
          exact absurd hABN (by decide)
      · have b01 : decide ((0 : Int) < (b : Int)) = false := decide_eq_false (by omega)
        have b02 : decide (0 < b) = false := decide_eq_false (by omega)
        obtain rfl : b = 0 := by omega
        clear hb0
        clear hr2 ht2
        go_wp2_with (first
          | (go_at_call 15; (with_reducible refine (unhide (HOW _)).mono ?_); rintro e w6 ⟨rfl, hb⟩; go_loud (have HBY := hide ((unhide HBY).trans (hb.mono (unhide HBY).size)); obtain ⟨z0, z1, z2, z3⟩ := box4 (unhide HBY); clear hb))
          | (go_at_call 14; (with_reducible refine (unhide (HRR _)).mono ?_); rintro e w7 ⟨rfl, hb⟩; go_loud (have HBY := hide ((unhide HBY).trans (hb.mono (unhide HBY).size)); obtain ⟨z0, z1, z2, z3⟩ := box4 (unhide HBY); clear hb))
          | (go_at_call 16; (with_reducible refine (unhide (HRX _)).mono ?_); rintro e w8 ⟨rfl, hb⟩; go_loud (have HBY := hide ((unhide HBY).trans (hb.mono (unhide HBY).size)); obtain ⟨z0, z1, z2, z3⟩ := box4 (unhide HBY); clear hb)))
        all_goals (go_ret; exact ⟨rfl, ridec (unhide HBY) ((unhide HBC).alloc (unhide HBC).size _)⟩)
    · have wq := toL_ne hwq
      clear hwq
      clear hr2 ht2
      go_wp2_with (first
        | (go_at_call 15; (with_reducible refine (unhide (HOW _)).mono ?_); rintro e w6 ⟨rfl, hb⟩; go_loud (have HBY := hide ((unhide HBY).trans (hb.mono (unhide HBY).size)); obtain ⟨z0, z1, z2, z3⟩ := box4 (unhide HBY); clear hb))
        | (go_at_call 14; (with_reducible refine (unhide (HRR _)).mono ?_); rintro e w7 ⟨rfl, hb⟩; go_loud (have HBY := hide ((unhide HBY).trans (hb.mono (unhide HBY).size)); obtain ⟨z0, z1, z2, z3⟩ := box4 (unhide HBY); clear hb))
        | (go_at_call 16; (with_reducible refine (unhide (HRX _)).mono ?_); rintro e w8 ⟨rfl, hb⟩; go_loud (have HBY := hide ((unhide HBY).trans (hb.mono (unhide HBY).size)); obtain ⟨z0, z1, z2, z3⟩ := box4 (unhide HBY); clear hb)))
      all_goals (go_ret; exact ⟨rfl, ridec (unhide HBY) ((unhide HBC).alloc (unhide HBC).size _)⟩)
  · rw [show opV 0 0 0 ⟨#[]⟩ = .agg #[.int .u8 0, .int .u64 0, .int .u64 0, .string ⟨#[]⟩] from rfl]
    have HBY := hide (Below.refl (wr.alloc (.cells #[.int .u8 0, .int .u64 0, .int .u64 0, .string ⟨#[]⟩] 33)).heap.size (wr.alloc (.cells #[.int .u8 0, .int .u64 0, .int .u64 0, .string ⟨#[]⟩] 33)))
    by_cases hwq : wn = fl
    · have WQ := Lib.hid (HWN.out.trans hwq)
      have wq : (wn.toList == fl.toList) = true := by rw [hwq]; exact beq_self_eq_true _
      clear hwq
      by_cases hb0 : 0 < b
      · have B0 := Lib.hid hb0
        have b01 : decide ((0 : Int) < (b : Int)) = true := decide_eq_true (by omega)
        have b02 : decide (0 < b) = true := decide_eq_true (by omega)
        rcases hnq : isNm (str nm) with _ | _
        · rw [hnq] at HNM
          clear hnq
          clear hno
          go_wp2_with (first
            | (go_at_call 13; (with_reducible refine (unhide (HNM _)).mono ?_); rintro e w5 ⟨rfl, hb⟩; go_loud (have HBY := hide ((unhide HBY).trans (hb.mono (unhide HBY).size)); obtain ⟨z0, z1, z2, z3⟩ := box4 (unhide HBY); clear hb)))
          all_goals (go_ret; exact ⟨rfl, ridec (unhide HBY) ((unhide HBC).alloc (unhide HBC).size _)⟩)
        · rw [hnq] at HNM
          have NQ := Lib.hid hnq
          clear hnq
          have hfl : str (⟨#[66, 78]⟩ : ByteArray) = flagsK k := by rw [WQ.out, ← HFL.out, str_ba (flags_byte k HK1.out.2)]
          have hABN := flags_tell_3 k HK1.out.2 HK1.out.1 hfl.symm
          exact absurd hABN (by decide)
      · have b01 : decide ((0 : Int) < (b : Int)) = false := decide_eq_false (by omega)
        have b02 : decide (0 < b) = false := decide_eq_false (by omega)
        obtain rfl : b = 0 := by omega
        clear hb0
        clear hno
        go_wp2
        all_goals (go_ret; exact ⟨rfl, ridec (unhide HBY) ((unhide HBC).alloc (unhide HBC).size _)⟩)
    · have wq := toL_ne hwq
      clear hwq
      clear hno
      go_wp2
      all_goals (go_ret; exact ⟨rfl, ridec (unhide HBY) ((unhide HBC).alloc (unhide HBC).size _)⟩)
set_option maxRecDepth 100000 in
set_option maxHeartbeats 4000000 in
theorem reads_4 (w : World) (m a b h : Nat) (nm0 : ByteArray) (hm : m < 256) (ha : a < 4294967296) (hb : b < 4294967296) (hh : h < 256) (hs : nm0.size ≤ 9223372036854775807) (hv : Vo w) (he : Ve w)
    (h1 : ((h : Int) % 2 == 1) = true) (h2 : ((h : Int) / 2 % 2 == 1) = false) (h3 : ((h : Int) / 4 % 2 == 1) = false) (g1 : ((h : Int) % 2 == 0) = false) (g2 : ((h : Int) / 2 % 2 == 0) = true) (g3 : ((h : Int) / 4 % 2 == 0) = true) :
    Calls Tryd.prog 4 #[.int .u8 (m : Int), .int .u32 (a : Int), .int .u32 (b : Int), .string nm0, .int .u8 (h : Int)] w fun e w' => e = .returned (.bool true) ∧ Below w.heap.size w w' := by
  have HAW := hide (opawake w hv)
  have HTX := fun (x : World) => hide (text_any x nm0 70 hs)
  rw [show ((70 : Nat) : Int) = 70 from rfl] at HTX
  obtain ⟨nm, hnm⟩ : ∃ nm, nm0.extract 0 (min nm0.size 70) = nm := ⟨_, rfl⟩
  have hnl : nm.size ≤ 70 := by rw [← hnm, ByteArray.size_extract]; omega
  rw [hnm] at HTX
  obtain ⟨k, hk⟩ : ∃ k : Nat, 1 + (m : Int) % 14 = (k : Int) := ⟨1 + m % 14, by omega⟩
  have hk1 : 1 ≤ k ∧ k ≤ 14 := by omega
  have HP := fun (x : World) => hide (parts_any x k (by omega))
  have HDA := fun (x : World) => hide (dec_any a x (by omega))
  have HDB := fun (x : World) => hide (dec_any b x (by omega))
  obtain ⟨wd, hwd⟩ : ∃ wd, ba (wordK k) = wd := ⟨_, rfl⟩
  obtain ⟨da, hda⟩ : ∃ da, ba (decL a) = da := ⟨_, rfl⟩
  obtain ⟨db, hdb⟩ : ∃ db, ba (decL b) = db := ⟨_, rfl⟩
  obtain ⟨fl, hfl⟩ : ∃ fl, ba (flagsK k) = fl := ⟨_, rfl⟩
  have hwl : wd.size ≤ 13 := by rw [← hwd, ba_size]; exact word_len k hk1.2
  have hal : da.size ≤ 20 := by rw [← hda, ba_size]; exact decL_20 (by omega)
  have hbl : db.size ≤ 20 := by rw [← hdb, ba_size]; exact decL_20 (by omega)
  rw [hwd, hfl] at HP
  rw [hda] at HDA
  rw [hdb] at HDB
  obtain ⟨x0, hx0⟩ : ∃ x, wd ++ (⟨#[32]⟩ : ByteArray) = x := ⟨_, rfl⟩
  obtain ⟨y0, hy0⟩ : ∃ y, x0 ++ da = y := ⟨_, rfl⟩
  have zx0 : x0.size = wd.size + 1 := by rw [← hx0, ByteArray.size_append]; rfl
  have zy0 : y0.size = x0.size + da.size := by rw [← hy0, ByteArray.size_append]
  have c0 : ¬ 9223372036854775807 < wd.size + (⟨#[32]⟩ : ByteArray).size := by rw [show (⟨#[32]⟩ : ByteArray).size = 1 from rfl]; omega
  have d0 : ¬ 9223372036854775807 < wd.size + 1 := by omega
  have e0 : ¬ 9223372036854775807 < x0.size + da.size := by omega
  have HX0 := Lib.hid hx0
  have HY0 := Lib.hid hy0
  obtain ⟨wn, hwn⟩ : ∃ wn, (⟨#[65]⟩ : ByteArray) = wn := ⟨_, rfl⟩
  have w0 : (⟨#[]⟩ : ByteArray) ++ ⟨#[65]⟩ = wn := hwn
  have HWN := Lib.hid hwn
  clear hwn
  have hLs : y0.size ≤ 1000000 := by omega
  have HLs := Lib.hid hLs
  have HNL := Lib.hid hnl
  have HK1 := Lib.hid hk1
  have HWD := Lib.hid hwd
  have HDA0 := Lib.hid hda
  have HDB0 := Lib.hid hdb
  have HFL := Lib.hid hfl
  have HV := Lib.hid hv
  have HE := Lib.hid he
  have HBD := Lib.hid (And.intro ha hb)
  clear hwl hal hbl hLs hnl hk1 hwd hda hdb hfl hv he hnm hs zx0 zy0
  go_enter Tryd.func4, Tryd.ntmps4
  go_wp2_with (first
    | (go_at_call 7; (with_reducible refine (unhide HAW).mono ?_); rintro e w1 ⟨rfl, hb1⟩; go_loud (
        have HBC := hide hb1;
        clear hb1))
    | (go_at_call 10; (with_reducible refine (unhide (HTX _)).mono ?_); rintro e w2 ⟨rfl, hw⟩; rw [← hw]; clear hw w2)
    | (go_at_call 8; (with_reducible refine (unhide (HP _)).mono ?_); rintro e w3 ⟨rfl, hb3⟩; go_loud (
        have HBC := hide (ridec hb3 (unhide HBC));
        clear hb3))
    | (go_at_call 11; (with_reducible refine (unhide (HDA _)).mono ?_); rintro e w4 ⟨rfl, hw⟩; rw [← hw]; clear hw w4)
    | (go_at_call 11; (with_reducible refine (unhide (HDB _)).mono ?_); rintro e w4 ⟨rfl, hw⟩; rw [← hw]; clear hw w4))
  have HNM := fun (x : World) => hide (rname14_any x nm (by have := HNL.out; omega))
  refine (oread_any _ y0 HLs.out (HV.out.below (unhide HBC)) (HE.out.below (unhide HBC))).mono ?_
  rintro e wr ⟨hbr, hres⟩
  have HBC := hide (ridec hbr (unhide HBC))
  clear hbr
  rcases hres with ⟨k2, a2, b2, s2, hk2, ha2, hb2, hs2, hr2, ht2, rfl⟩ | ⟨rfl, hno⟩
  · have HOW := fun (x : World) => hide (own_any x k2 a2 b2 s2)
    have HRR := fun (x : World) => hide (rright_any x k2 a2 b2 s2 hk2 (by omega))
    have HRX := fun (x : World) => hide (rtext_good x k2 a2 b2 s2 ha2 hb2 hr2)
    rw [hr2] at HRR
    rw [show ba (textO k2 a2 b2 (str s2)) = y0 by rw [ht2, ba_str]] at HRX
    have hyy : (y0.toList == y0.toList) = true := beq_self_eq_true _
    unfold opV at *
    have HBY := hide (Below.refl (wr.alloc (.cells #[.int .u8 (k2 : Int), .int .u64 (a2 : Int), .int .u64 (b2 : Int), .string s2] 33)).heap.size (wr.alloc (.cells #[.int .u8 (k2 : Int), .int .u64 (a2 : Int), .int .u64 (b2 : Int), .string s2] 33)))
    by_cases hwq : wn = fl
    · have WQ := Lib.hid (HWN.out.trans hwq)
      have wq : (wn.toList == fl.toList) = true := by rw [hwq]; exact beq_self_eq_true _
      clear hwq
      by_cases ha0 : 0 < a
      · have A0 := Lib.hid ha0
        have a01 : decide ((0 : Int) < (a : Int)) = true := decide_eq_true (by omega)
        have a02 : decide (0 < a) = true := decide_eq_true (by omega)
        have hfl : str (⟨#[65]⟩ : ByteArray) = flagsK k := by rw [WQ.out, ← HFL.out, str_ba (flags_byte k HK1.out.2)]
        have hABN := flags_tell_4 k HK1.out.2 HK1.out.1 hfl.symm
        obtain ⟨hA, hB, hN⟩ := hABN
        have hR : rightO k a 0 (str ⟨#[]⟩) = true := by
          unfold rightO
          rw [decide_eq_true HK1.out, hA, hB, hN]
          rw [decide_eq_true (show a ≠ 0 by have := A0.out; omega)]
          skip
          skip
          rfl
        have hT : textO k a 0 (str ⟨#[]⟩) = str y0 := by
          rw [← HY0.out, str_append, ← HX0.out, str_append, sp_str, ← HWD.out, str_ba (word_byte k HK1.out.2), ← HDA0.out, str_ba (decL_byte a)]
          unfold textO partsO optL
          rw [hA, hB, hN]
          simp [joinT]
        have hal : a < 18446744073709551616 := by have := HBD.out; omega
        have hbl : 0 < 18446744073709551616 := by have := HBD.out; omega
        have hkk := (textO_inj hr2 hR ha2 hb2 hal hbl (ht2.trans hT.symm)).1
        have hk2k : ((k2 : Int) == (k : Int)) = true := by rw [beq_iff_eq, hkk]
        clear hR hT hA hB hN hfl hkk hal hbl
        clear hr2 ht2
        go_wp2_with (first
          | (go_at_call 15; (with_reducible refine (unhide (HOW _)).mono ?_); rintro e w6 ⟨rfl, hb⟩; go_loud (have HBY := hide ((unhide HBY).trans (hb.mono (unhide HBY).size)); obtain ⟨z0, z1, z2, z3⟩ := box4 (unhide HBY); clear hb))
          | (go_at_call 14; (with_reducible refine (unhide (HRR _)).mono ?_); rintro e w7 ⟨rfl, hb⟩; go_loud (have HBY := hide ((unhide HBY).trans (hb.mono (unhide HBY).size)); obtain ⟨z0, z1, z2, z3⟩ := box4 (unhide HBY); clear hb))
          | (go_at_call 16; (with_reducible refine (unhide (HRX _)).mono ?_); rintro e w8 ⟨rfl, hb⟩; go_loud (have HBY := hide ((unhide HBY).trans (hb.mono (unhide HBY).size)); obtain ⟨z0, z1, z2, z3⟩ := box4 (unhide HBY); clear hb)))
        all_goals (go_ret; exact ⟨rfl, ridec (unhide HBY) ((unhide HBC).alloc (unhide HBC).size _)⟩)
      · have a01 : decide ((0 : Int) < (a : Int)) = false := decide_eq_false (by omega)
        have a02 : decide (0 < a) = false := decide_eq_false (by omega)
        obtain rfl : a = 0 := by omega
        clear ha0
        clear hr2 ht2
        go_wp2_with (first
          | (go_at_call 15; (with_reducible refine (unhide (HOW _)).mono ?_); rintro e w6 ⟨rfl, hb⟩; go_loud (have HBY := hide ((unhide HBY).trans (hb.mono (unhide HBY).size)); obtain ⟨z0, z1, z2, z3⟩ := box4 (unhide HBY); clear hb))
          | (go_at_call 14; (with_reducible refine (unhide (HRR _)).mono ?_); rintro e w7 ⟨rfl, hb⟩; go_loud (have HBY := hide ((unhide HBY).trans (hb.mono (unhide HBY).size)); obtain ⟨z0, z1, z2, z3⟩ := box4 (unhide HBY); clear hb))
          | (go_at_call 16; (with_reducible refine (unhide (HRX _)).mono ?_); rintro e w8 ⟨rfl, hb⟩; go_loud (have HBY := hide ((unhide HBY).trans (hb.mono (unhide HBY).size)); obtain ⟨z0, z1, z2, z3⟩ := box4 (unhide HBY); clear hb)))
        all_goals (go_ret; exact ⟨rfl, ridec (unhide HBY) ((unhide HBC).alloc (unhide HBC).size _)⟩)
    · have wq := toL_ne hwq
      clear hwq
      clear hr2 ht2
      go_wp2_with (first
        | (go_at_call 15; (with_reducible refine (unhide (HOW _)).mono ?_); rintro e w6 ⟨rfl, hb⟩; go_loud (have HBY := hide ((unhide HBY).trans (hb.mono (unhide HBY).size)); obtain ⟨z0, z1, z2, z3⟩ := box4 (unhide HBY); clear hb))
        | (go_at_call 14; (with_reducible refine (unhide (HRR _)).mono ?_); rintro e w7 ⟨rfl, hb⟩; go_loud (have HBY := hide ((unhide HBY).trans (hb.mono (unhide HBY).size)); obtain ⟨z0, z1, z2, z3⟩ := box4 (unhide HBY); clear hb))
        | (go_at_call 16; (with_reducible refine (unhide (HRX _)).mono ?_); rintro e w8 ⟨rfl, hb⟩; go_loud (have HBY := hide ((unhide HBY).trans (hb.mono (unhide HBY).size)); obtain ⟨z0, z1, z2, z3⟩ := box4 (unhide HBY); clear hb)))
      all_goals (go_ret; exact ⟨rfl, ridec (unhide HBY) ((unhide HBC).alloc (unhide HBC).size _)⟩)
  · rw [show opV 0 0 0 ⟨#[]⟩ = .agg #[.int .u8 0, .int .u64 0, .int .u64 0, .string ⟨#[]⟩] from rfl]
    have HBY := hide (Below.refl (wr.alloc (.cells #[.int .u8 0, .int .u64 0, .int .u64 0, .string ⟨#[]⟩] 33)).heap.size (wr.alloc (.cells #[.int .u8 0, .int .u64 0, .int .u64 0, .string ⟨#[]⟩] 33)))
    by_cases hwq : wn = fl
    · have WQ := Lib.hid (HWN.out.trans hwq)
      have wq : (wn.toList == fl.toList) = true := by rw [hwq]; exact beq_self_eq_true _
      clear hwq
      by_cases ha0 : 0 < a
      · have A0 := Lib.hid ha0
        have a01 : decide ((0 : Int) < (a : Int)) = true := decide_eq_true (by omega)
        have a02 : decide (0 < a) = true := decide_eq_true (by omega)
        have hfl : str (⟨#[65]⟩ : ByteArray) = flagsK k := by rw [WQ.out, ← HFL.out, str_ba (flags_byte k HK1.out.2)]
        have hABN := flags_tell_4 k HK1.out.2 HK1.out.1 hfl.symm
        obtain ⟨hA, hB, hN⟩ := hABN
        have hR : rightO k a 0 (str ⟨#[]⟩) = true := by
          unfold rightO
          rw [decide_eq_true HK1.out, hA, hB, hN]
          rw [decide_eq_true (show a ≠ 0 by have := A0.out; omega)]
          skip
          skip
          rfl
        have hT : textO k a 0 (str ⟨#[]⟩) = str y0 := by
          rw [← HY0.out, str_append, ← HX0.out, str_append, sp_str, ← HWD.out, str_ba (word_byte k HK1.out.2), ← HDA0.out, str_ba (decL_byte a)]
          unfold textO partsO optL
          rw [hA, hB, hN]
          simp [joinT]
        have hal : a < 18446744073709551616 := by have := HBD.out; omega
        have hbl : 0 < 18446744073709551616 := by have := HBD.out; omega
        exact absurd hT (hno k a 0 ⟨#[]⟩ hal hbl hR)
      · have a01 : decide ((0 : Int) < (a : Int)) = false := decide_eq_false (by omega)
        have a02 : decide (0 < a) = false := decide_eq_false (by omega)
        obtain rfl : a = 0 := by omega
        clear ha0
        clear hno
        go_wp2
        all_goals (go_ret; exact ⟨rfl, ridec (unhide HBY) ((unhide HBC).alloc (unhide HBC).size _)⟩)
    · have wq := toL_ne hwq
      clear hwq
      clear hno
      go_wp2
      all_goals (go_ret; exact ⟨rfl, ridec (unhide HBY) ((unhide HBC).alloc (unhide HBC).size _)⟩)
set_option maxRecDepth 100000 in
set_option maxHeartbeats 4000000 in
theorem reads_5 (w : World) (m a b h : Nat) (nm0 : ByteArray) (hm : m < 256) (ha : a < 4294967296) (hb : b < 4294967296) (hh : h < 256) (hs : nm0.size ≤ 9223372036854775807) (hv : Vo w) (he : Ve w)
    (h1 : ((h : Int) % 2 == 1) = true) (h2 : ((h : Int) / 2 % 2 == 1) = false) (h3 : ((h : Int) / 4 % 2 == 1) = true) (g1 : ((h : Int) % 2 == 0) = false) (g2 : ((h : Int) / 2 % 2 == 0) = true) (g3 : ((h : Int) / 4 % 2 == 0) = false) :
    Calls Tryd.prog 4 #[.int .u8 (m : Int), .int .u32 (a : Int), .int .u32 (b : Int), .string nm0, .int .u8 (h : Int)] w fun e w' => e = .returned (.bool true) ∧ Below w.heap.size w w' := by
  have HAW := hide (opawake w hv)
  have HTX := fun (x : World) => hide (text_any x nm0 70 hs)
  rw [show ((70 : Nat) : Int) = 70 from rfl] at HTX
  obtain ⟨nm, hnm⟩ : ∃ nm, nm0.extract 0 (min nm0.size 70) = nm := ⟨_, rfl⟩
  have hnl : nm.size ≤ 70 := by rw [← hnm, ByteArray.size_extract]; omega
  rw [hnm] at HTX
  obtain ⟨k, hk⟩ : ∃ k : Nat, 1 + (m : Int) % 14 = (k : Int) := ⟨1 + m % 14, by omega⟩
  have hk1 : 1 ≤ k ∧ k ≤ 14 := by omega
  have HP := fun (x : World) => hide (parts_any x k (by omega))
  have HDA := fun (x : World) => hide (dec_any a x (by omega))
  have HDB := fun (x : World) => hide (dec_any b x (by omega))
  obtain ⟨wd, hwd⟩ : ∃ wd, ba (wordK k) = wd := ⟨_, rfl⟩
  obtain ⟨da, hda⟩ : ∃ da, ba (decL a) = da := ⟨_, rfl⟩
  obtain ⟨db, hdb⟩ : ∃ db, ba (decL b) = db := ⟨_, rfl⟩
  obtain ⟨fl, hfl⟩ : ∃ fl, ba (flagsK k) = fl := ⟨_, rfl⟩
  have hwl : wd.size ≤ 13 := by rw [← hwd, ba_size]; exact word_len k hk1.2
  have hal : da.size ≤ 20 := by rw [← hda, ba_size]; exact decL_20 (by omega)
  have hbl : db.size ≤ 20 := by rw [← hdb, ba_size]; exact decL_20 (by omega)
  rw [hwd, hfl] at HP
  rw [hda] at HDA
  rw [hdb] at HDB
  obtain ⟨x0, hx0⟩ : ∃ x, wd ++ (⟨#[32]⟩ : ByteArray) = x := ⟨_, rfl⟩
  obtain ⟨y0, hy0⟩ : ∃ y, x0 ++ da = y := ⟨_, rfl⟩
  have zx0 : x0.size = wd.size + 1 := by rw [← hx0, ByteArray.size_append]; rfl
  have zy0 : y0.size = x0.size + da.size := by rw [← hy0, ByteArray.size_append]
  have c0 : ¬ 9223372036854775807 < wd.size + (⟨#[32]⟩ : ByteArray).size := by rw [show (⟨#[32]⟩ : ByteArray).size = 1 from rfl]; omega
  have d0 : ¬ 9223372036854775807 < wd.size + 1 := by omega
  have e0 : ¬ 9223372036854775807 < x0.size + da.size := by omega
  have HX0 := Lib.hid hx0
  have HY0 := Lib.hid hy0
  obtain ⟨x2, hx2⟩ : ∃ x, y0 ++ (⟨#[32]⟩ : ByteArray) = x := ⟨_, rfl⟩
  obtain ⟨y2, hy2⟩ : ∃ y, x2 ++ nm = y := ⟨_, rfl⟩
  have zx2 : x2.size = y0.size + 1 := by rw [← hx2, ByteArray.size_append]; rfl
  have zy2 : y2.size = x2.size + nm.size := by rw [← hy2, ByteArray.size_append]
  have c2 : ¬ 9223372036854775807 < y0.size + (⟨#[32]⟩ : ByteArray).size := by rw [show (⟨#[32]⟩ : ByteArray).size = 1 from rfl]; omega
  have d2 : ¬ 9223372036854775807 < y0.size + 1 := by omega
  have e2 : ¬ 9223372036854775807 < x2.size + nm.size := by omega
  have HX2 := Lib.hid hx2
  have HY2 := Lib.hid hy2
  have w0 : (⟨#[]⟩ : ByteArray) ++ ⟨#[65]⟩ = ⟨#[65]⟩ := rfl
  obtain ⟨wn, hwn⟩ : ∃ wn, (⟨#[65, 78]⟩ : ByteArray) = wn := ⟨_, rfl⟩
  have w2 : (⟨#[65]⟩ : ByteArray) ++ ⟨#[78]⟩ = wn := hwn
  have HWN := Lib.hid hwn
  clear hwn
  have hLs : y2.size ≤ 1000000 := by omega
  have HLs := Lib.hid hLs
  have HNL := Lib.hid hnl
  have HK1 := Lib.hid hk1
  have HWD := Lib.hid hwd
  have HDA0 := Lib.hid hda
  have HDB0 := Lib.hid hdb
  have HFL := Lib.hid hfl
  have HV := Lib.hid hv
  have HE := Lib.hid he
  have HBD := Lib.hid (And.intro ha hb)
  clear hwl hal hbl hLs hnl hk1 hwd hda hdb hfl hv he hnm hs zx0 zy0 zx2 zy2
  go_enter Tryd.func4, Tryd.ntmps4
  go_wp2_with (first
    | (go_at_call 7; (with_reducible refine (unhide HAW).mono ?_); rintro e w1 ⟨rfl, hb1⟩; go_loud (
        have HBC := hide hb1;
        clear hb1))
    | (go_at_call 10; (with_reducible refine (unhide (HTX _)).mono ?_); rintro e w2 ⟨rfl, hw⟩; rw [← hw]; clear hw w2)
    | (go_at_call 8; (with_reducible refine (unhide (HP _)).mono ?_); rintro e w3 ⟨rfl, hb3⟩; go_loud (
        have HBC := hide (ridec hb3 (unhide HBC));
        clear hb3))
    | (go_at_call 11; (with_reducible refine (unhide (HDA _)).mono ?_); rintro e w4 ⟨rfl, hw⟩; rw [← hw]; clear hw w4)
    | (go_at_call 11; (with_reducible refine (unhide (HDB _)).mono ?_); rintro e w4 ⟨rfl, hw⟩; rw [← hw]; clear hw w4))
  have HNM := fun (x : World) => hide (rname14_any x nm (by have := HNL.out; omega))
  refine (oread_any _ y2 HLs.out (HV.out.below (unhide HBC)) (HE.out.below (unhide HBC))).mono ?_
  rintro e wr ⟨hbr, hres⟩
  have HBC := hide (ridec hbr (unhide HBC))
  clear hbr
  rcases hres with ⟨k2, a2, b2, s2, hk2, ha2, hb2, hs2, hr2, ht2, rfl⟩ | ⟨rfl, hno⟩
  · have HOW := fun (x : World) => hide (own_any x k2 a2 b2 s2)
    have HRR := fun (x : World) => hide (rright_any x k2 a2 b2 s2 hk2 (by omega))
    have HRX := fun (x : World) => hide (rtext_good x k2 a2 b2 s2 ha2 hb2 hr2)
    rw [hr2] at HRR
    rw [show ba (textO k2 a2 b2 (str s2)) = y2 by rw [ht2, ba_str]] at HRX
    have hyy : (y2.toList == y2.toList) = true := beq_self_eq_true _
    unfold opV at *
    have HBY := hide (Below.refl (wr.alloc (.cells #[.int .u8 (k2 : Int), .int .u64 (a2 : Int), .int .u64 (b2 : Int), .string s2] 33)).heap.size (wr.alloc (.cells #[.int .u8 (k2 : Int), .int .u64 (a2 : Int), .int .u64 (b2 : Int), .string s2] 33)))
    by_cases hwq : wn = fl
    · have WQ := Lib.hid (HWN.out.trans hwq)
      have wq : (wn.toList == fl.toList) = true := by rw [hwq]; exact beq_self_eq_true _
      clear hwq
      by_cases ha0 : 0 < a
      · have A0 := Lib.hid ha0
        have a01 : decide ((0 : Int) < (a : Int)) = true := decide_eq_true (by omega)
        have a02 : decide (0 < a) = true := decide_eq_true (by omega)
        rcases hnq : isNm (str nm) with _ | _
        · rw [hnq] at HNM
          clear hnq
          clear hr2 ht2
          go_wp2_with (first
            | (go_at_call 13; (with_reducible refine (unhide (HNM _)).mono ?_); rintro e w5 ⟨rfl, hb⟩; go_loud (have HBY := hide ((unhide HBY).trans (hb.mono (unhide HBY).size)); obtain ⟨z0, z1, z2, z3⟩ := box4 (unhide HBY); clear hb))
            | (go_at_call 15; (with_reducible refine (unhide (HOW _)).mono ?_); rintro e w6 ⟨rfl, hb⟩; go_loud (have HBY := hide ((unhide HBY).trans (hb.mono (unhide HBY).size)); obtain ⟨z0, z1, z2, z3⟩ := box4 (unhide HBY); clear hb))
            | (go_at_call 14; (with_reducible refine (unhide (HRR _)).mono ?_); rintro e w7 ⟨rfl, hb⟩; go_loud (have HBY := hide ((unhide HBY).trans (hb.mono (unhide HBY).size)); obtain ⟨z0, z1, z2, z3⟩ := box4 (unhide HBY); clear hb))
            | (go_at_call 16; (with_reducible refine (unhide (HRX _)).mono ?_); rintro e w8 ⟨rfl, hb⟩; go_loud (have HBY := hide ((unhide HBY).trans (hb.mono (unhide HBY).size)); obtain ⟨z0, z1, z2, z3⟩ := box4 (unhide HBY); clear hb)))
          all_goals (go_ret; exact ⟨rfl, ridec (unhide HBY) ((unhide HBC).alloc (unhide HBC).size _)⟩)
        · rw [hnq] at HNM
          have NQ := Lib.hid hnq
          clear hnq
          have hfl : str (⟨#[65, 78]⟩ : ByteArray) = flagsK k := by rw [WQ.out, ← HFL.out, str_ba (flags_byte k HK1.out.2)]
          have hABN := flags_tell_5 k HK1.out.2 HK1.out.1 hfl.symm
          obtain ⟨hA, hB, hN⟩ := hABN
          have hR : rightO k a 0 (str nm) = true := by
            unfold rightO
            rw [decide_eq_true HK1.out, hA, hB, hN]
            rw [decide_eq_true (show a ≠ 0 by have := A0.out; omega)]
            skip
            rw [NQ.out]
            rfl
          have hT : textO k a 0 (str nm) = str y2 := by
            rw [← HY2.out, str_append, ← HX2.out, str_append, ← HY0.out, str_append, ← HX0.out, str_append, sp_str, ← HWD.out, str_ba (word_byte k HK1.out.2), ← HDA0.out, str_ba (decL_byte a)]
            unfold textO partsO optL
            rw [hA, hB, hN]
            simp [joinT]
          have hal : a < 18446744073709551616 := by have := HBD.out; omega
          have hbl : 0 < 18446744073709551616 := by have := HBD.out; omega
          have hkk := (textO_inj hr2 hR ha2 hb2 hal hbl (ht2.trans hT.symm)).1
          have hk2k : ((k2 : Int) == (k : Int)) = true := by rw [beq_iff_eq, hkk]
          clear hR hT hA hB hN hfl hkk hal hbl
          clear hr2 ht2
          go_wp2_with (first
            | (go_at_call 13; (with_reducible refine (unhide (HNM _)).mono ?_); rintro e w5 ⟨rfl, hb⟩; go_loud (have HBY := hide ((unhide HBY).trans (hb.mono (unhide HBY).size)); obtain ⟨z0, z1, z2, z3⟩ := box4 (unhide HBY); clear hb))
            | (go_at_call 15; (with_reducible refine (unhide (HOW _)).mono ?_); rintro e w6 ⟨rfl, hb⟩; go_loud (have HBY := hide ((unhide HBY).trans (hb.mono (unhide HBY).size)); obtain ⟨z0, z1, z2, z3⟩ := box4 (unhide HBY); clear hb))
            | (go_at_call 14; (with_reducible refine (unhide (HRR _)).mono ?_); rintro e w7 ⟨rfl, hb⟩; go_loud (have HBY := hide ((unhide HBY).trans (hb.mono (unhide HBY).size)); obtain ⟨z0, z1, z2, z3⟩ := box4 (unhide HBY); clear hb))
            | (go_at_call 16; (with_reducible refine (unhide (HRX _)).mono ?_); rintro e w8 ⟨rfl, hb⟩; go_loud (have HBY := hide ((unhide HBY).trans (hb.mono (unhide HBY).size)); obtain ⟨z0, z1, z2, z3⟩ := box4 (unhide HBY); clear hb)))
          all_goals (go_ret; exact ⟨rfl, ridec (unhide HBY) ((unhide HBC).alloc (unhide HBC).size _)⟩)
      · have a01 : decide ((0 : Int) < (a : Int)) = false := decide_eq_false (by omega)
        have a02 : decide (0 < a) = false := decide_eq_false (by omega)
        obtain rfl : a = 0 := by omega
        clear ha0
        clear hr2 ht2
        go_wp2_with (first
          | (go_at_call 15; (with_reducible refine (unhide (HOW _)).mono ?_); rintro e w6 ⟨rfl, hb⟩; go_loud (have HBY := hide ((unhide HBY).trans (hb.mono (unhide HBY).size)); obtain ⟨z0, z1, z2, z3⟩ := box4 (unhide HBY); clear hb))
          | (go_at_call 14; (with_reducible refine (unhide (HRR _)).mono ?_); rintro e w7 ⟨rfl, hb⟩; go_loud (have HBY := hide ((unhide HBY).trans (hb.mono (unhide HBY).size)); obtain ⟨z0, z1, z2, z3⟩ := box4 (unhide HBY); clear hb))
          | (go_at_call 16; (with_reducible refine (unhide (HRX _)).mono ?_); rintro e w8 ⟨rfl, hb⟩; go_loud (have HBY := hide ((unhide HBY).trans (hb.mono (unhide HBY).size)); obtain ⟨z0, z1, z2, z3⟩ := box4 (unhide HBY); clear hb)))
        all_goals (go_ret; exact ⟨rfl, ridec (unhide HBY) ((unhide HBC).alloc (unhide HBC).size _)⟩)
    · have wq := toL_ne hwq
      clear hwq
      clear hr2 ht2
      go_wp2_with (first
        | (go_at_call 15; (with_reducible refine (unhide (HOW _)).mono ?_); rintro e w6 ⟨rfl, hb⟩; go_loud (have HBY := hide ((unhide HBY).trans (hb.mono (unhide HBY).size)); obtain ⟨z0, z1, z2, z3⟩ := box4 (unhide HBY); clear hb))
        | (go_at_call 14; (with_reducible refine (unhide (HRR _)).mono ?_); rintro e w7 ⟨rfl, hb⟩; go_loud (have HBY := hide ((unhide HBY).trans (hb.mono (unhide HBY).size)); obtain ⟨z0, z1, z2, z3⟩ := box4 (unhide HBY); clear hb))
        | (go_at_call 16; (with_reducible refine (unhide (HRX _)).mono ?_); rintro e w8 ⟨rfl, hb⟩; go_loud (have HBY := hide ((unhide HBY).trans (hb.mono (unhide HBY).size)); obtain ⟨z0, z1, z2, z3⟩ := box4 (unhide HBY); clear hb)))
      all_goals (go_ret; exact ⟨rfl, ridec (unhide HBY) ((unhide HBC).alloc (unhide HBC).size _)⟩)
  · rw [show opV 0 0 0 ⟨#[]⟩ = .agg #[.int .u8 0, .int .u64 0, .int .u64 0, .string ⟨#[]⟩] from rfl]
    have HBY := hide (Below.refl (wr.alloc (.cells #[.int .u8 0, .int .u64 0, .int .u64 0, .string ⟨#[]⟩] 33)).heap.size (wr.alloc (.cells #[.int .u8 0, .int .u64 0, .int .u64 0, .string ⟨#[]⟩] 33)))
    by_cases hwq : wn = fl
    · have WQ := Lib.hid (HWN.out.trans hwq)
      have wq : (wn.toList == fl.toList) = true := by rw [hwq]; exact beq_self_eq_true _
      clear hwq
      by_cases ha0 : 0 < a
      · have A0 := Lib.hid ha0
        have a01 : decide ((0 : Int) < (a : Int)) = true := decide_eq_true (by omega)
        have a02 : decide (0 < a) = true := decide_eq_true (by omega)
        rcases hnq : isNm (str nm) with _ | _
        · rw [hnq] at HNM
          clear hnq
          clear hno
          go_wp2_with (first
            | (go_at_call 13; (with_reducible refine (unhide (HNM _)).mono ?_); rintro e w5 ⟨rfl, hb⟩; go_loud (have HBY := hide ((unhide HBY).trans (hb.mono (unhide HBY).size)); obtain ⟨z0, z1, z2, z3⟩ := box4 (unhide HBY); clear hb)))
          all_goals (go_ret; exact ⟨rfl, ridec (unhide HBY) ((unhide HBC).alloc (unhide HBC).size _)⟩)
        · rw [hnq] at HNM
          have NQ := Lib.hid hnq
          clear hnq
          have hfl : str (⟨#[65, 78]⟩ : ByteArray) = flagsK k := by rw [WQ.out, ← HFL.out, str_ba (flags_byte k HK1.out.2)]
          have hABN := flags_tell_5 k HK1.out.2 HK1.out.1 hfl.symm
          obtain ⟨hA, hB, hN⟩ := hABN
          have hR : rightO k a 0 (str nm) = true := by
            unfold rightO
            rw [decide_eq_true HK1.out, hA, hB, hN]
            rw [decide_eq_true (show a ≠ 0 by have := A0.out; omega)]
            skip
            rw [NQ.out]
            rfl
          have hT : textO k a 0 (str nm) = str y2 := by
            rw [← HY2.out, str_append, ← HX2.out, str_append, ← HY0.out, str_append, ← HX0.out, str_append, sp_str, ← HWD.out, str_ba (word_byte k HK1.out.2), ← HDA0.out, str_ba (decL_byte a)]
            unfold textO partsO optL
            rw [hA, hB, hN]
            simp [joinT]
          have hal : a < 18446744073709551616 := by have := HBD.out; omega
          have hbl : 0 < 18446744073709551616 := by have := HBD.out; omega
          exact absurd hT (hno k a 0 nm hal hbl hR)
      · have a01 : decide ((0 : Int) < (a : Int)) = false := decide_eq_false (by omega)
        have a02 : decide (0 < a) = false := decide_eq_false (by omega)
        obtain rfl : a = 0 := by omega
        clear ha0
        clear hno
        go_wp2
        all_goals (go_ret; exact ⟨rfl, ridec (unhide HBY) ((unhide HBC).alloc (unhide HBC).size _)⟩)
    · have wq := toL_ne hwq
      clear hwq
      clear hno
      go_wp2
      all_goals (go_ret; exact ⟨rfl, ridec (unhide HBY) ((unhide HBC).alloc (unhide HBC).size _)⟩)
end Go.Proofs.YtblchmcnbcfaaaaDoor
namespace Go.Proofs.YtblchmcnbcfaaaaDoor
open Go.RowKit
set_option linter.unusedVariables false
set_option linter.unusedSimpArgs false
set_option maxRecDepth 100000 in
set_option maxHeartbeats 4000000 in
theorem reads_6 (w : World) (m a b h : Nat) (nm0 : ByteArray) (hm : m < 256) (ha : a < 4294967296) (hb : b < 4294967296) (hh : h < 256) (hs : nm0.size ≤ 9223372036854775807) (hv : Vo w) (he : Ve w)
    (h1 : ((h : Int) % 2 == 1) = true) (h2 : ((h : Int) / 2 % 2 == 1) = true) (h3 : ((h : Int) / 4 % 2 == 1) = false) (g1 : ((h : Int) % 2 == 0) = false) (g2 : ((h : Int) / 2 % 2 == 0) = false) (g3 : ((h : Int) / 4 % 2 == 0) = true) :
    Calls Tryd.prog 4 #[.int .u8 (m : Int), .int .u32 (a : Int), .int .u32 (b : Int), .string nm0, .int .u8 (h : Int)] w fun e w' => e = .returned (.bool true) ∧ Below w.heap.size w w' := by
  have HAW := hide (opawake w hv)
  have HTX := fun (x : World) => hide (text_any x nm0 70 hs)
  rw [show ((70 : Nat) : Int) = 70 from rfl] at HTX
  obtain ⟨nm, hnm⟩ : ∃ nm, nm0.extract 0 (min nm0.size 70) = nm := ⟨_, rfl⟩
  have hnl : nm.size ≤ 70 := by rw [← hnm, ByteArray.size_extract]; omega
  rw [hnm] at HTX
  obtain ⟨k, hk⟩ : ∃ k : Nat, 1 + (m : Int) % 14 = (k : Int) := ⟨1 + m % 14, by omega⟩
  have hk1 : 1 ≤ k ∧ k ≤ 14 := by omega
  have HP := fun (x : World) => hide (parts_any x k (by omega))
  have HDA := fun (x : World) => hide (dec_any a x (by omega))
  have HDB := fun (x : World) => hide (dec_any b x (by omega))
  obtain ⟨wd, hwd⟩ : ∃ wd, ba (wordK k) = wd := ⟨_, rfl⟩
  obtain ⟨da, hda⟩ : ∃ da, ba (decL a) = da := ⟨_, rfl⟩
  obtain ⟨db, hdb⟩ : ∃ db, ba (decL b) = db := ⟨_, rfl⟩
  obtain ⟨fl, hfl⟩ : ∃ fl, ba (flagsK k) = fl := ⟨_, rfl⟩
  have hwl : wd.size ≤ 13 := by rw [← hwd, ba_size]; exact word_len k hk1.2
  have hal : da.size ≤ 20 := by rw [← hda, ba_size]; exact decL_20 (by omega)
  have hbl : db.size ≤ 20 := by rw [← hdb, ba_size]; exact decL_20 (by omega)
  rw [hwd, hfl] at HP
  rw [hda] at HDA
  rw [hdb] at HDB
  obtain ⟨x0, hx0⟩ : ∃ x, wd ++ (⟨#[32]⟩ : ByteArray) = x := ⟨_, rfl⟩
  obtain ⟨y0, hy0⟩ : ∃ y, x0 ++ da = y := ⟨_, rfl⟩
  have zx0 : x0.size = wd.size + 1 := by rw [← hx0, ByteArray.size_append]; rfl
  have zy0 : y0.size = x0.size + da.size := by rw [← hy0, ByteArray.size_append]
  have c0 : ¬ 9223372036854775807 < wd.size + (⟨#[32]⟩ : ByteArray).size := by rw [show (⟨#[32]⟩ : ByteArray).size = 1 from rfl]; omega
  have d0 : ¬ 9223372036854775807 < wd.size + 1 := by omega
  have e0 : ¬ 9223372036854775807 < x0.size + da.size := by omega
  have HX0 := Lib.hid hx0
  have HY0 := Lib.hid hy0
  obtain ⟨x1, hx1⟩ : ∃ x, y0 ++ (⟨#[32]⟩ : ByteArray) = x := ⟨_, rfl⟩
  obtain ⟨y1, hy1⟩ : ∃ y, x1 ++ db = y := ⟨_, rfl⟩
  have zx1 : x1.size = y0.size + 1 := by rw [← hx1, ByteArray.size_append]; rfl
  have zy1 : y1.size = x1.size + db.size := by rw [← hy1, ByteArray.size_append]
  have c1 : ¬ 9223372036854775807 < y0.size + (⟨#[32]⟩ : ByteArray).size := by rw [show (⟨#[32]⟩ : ByteArray).size = 1 from rfl]; omega
  have d1 : ¬ 9223372036854775807 < y0.size + 1 := by omega
  have e1 : ¬ 9223372036854775807 < x1.size + db.size := by omega
  have HX1 := Lib.hid hx1
  have HY1 := Lib.hid hy1
  have w0 : (⟨#[]⟩ : ByteArray) ++ ⟨#[65]⟩ = ⟨#[65]⟩ := rfl
  obtain ⟨wn, hwn⟩ : ∃ wn, (⟨#[65, 66]⟩ : ByteArray) = wn := ⟨_, rfl⟩
  have w1 : (⟨#[65]⟩ : ByteArray) ++ ⟨#[66]⟩ = wn := hwn
  have HWN := Lib.hid hwn
  clear hwn
  have hLs : y1.size ≤ 1000000 := by omega
  have HLs := Lib.hid hLs
  have HNL := Lib.hid hnl
  have HK1 := Lib.hid hk1
  have HWD := Lib.hid hwd
  have HDA0 := Lib.hid hda
  have HDB0 := Lib.hid hdb
  have HFL := Lib.hid hfl
  have HV := Lib.hid hv
  have HE := Lib.hid he
  have HBD := Lib.hid (And.intro ha hb)
  clear hwl hal hbl hLs hnl hk1 hwd hda hdb hfl hv he hnm hs zx0 zy0 zx1 zy1
  go_enter Tryd.func4, Tryd.ntmps4
  go_wp2_with (first
    | (go_at_call 7; (with_reducible refine (unhide HAW).mono ?_); rintro e w1 ⟨rfl, hb1⟩; go_loud (
        have HBC := hide hb1;
        clear hb1))
    | (go_at_call 10; (with_reducible refine (unhide (HTX _)).mono ?_); rintro e w2 ⟨rfl, hw⟩; rw [← hw]; clear hw w2)
    | (go_at_call 8; (with_reducible refine (unhide (HP _)).mono ?_); rintro e w3 ⟨rfl, hb3⟩; go_loud (
        have HBC := hide (ridec hb3 (unhide HBC));
        clear hb3))
    | (go_at_call 11; (with_reducible refine (unhide (HDA _)).mono ?_); rintro e w4 ⟨rfl, hw⟩; rw [← hw]; clear hw w4)
    | (go_at_call 11; (with_reducible refine (unhide (HDB _)).mono ?_); rintro e w4 ⟨rfl, hw⟩; rw [← hw]; clear hw w4))
  have HNM := fun (x : World) => hide (rname14_any x nm (by have := HNL.out; omega))
  refine (oread_any _ y1 HLs.out (HV.out.below (unhide HBC)) (HE.out.below (unhide HBC))).mono ?_
  rintro e wr ⟨hbr, hres⟩
  have HBC := hide (ridec hbr (unhide HBC))
  clear hbr
  rcases hres with ⟨k2, a2, b2, s2, hk2, ha2, hb2, hs2, hr2, ht2, rfl⟩ | ⟨rfl, hno⟩
  · have HOW := fun (x : World) => hide (own_any x k2 a2 b2 s2)
    have HRR := fun (x : World) => hide (rright_any x k2 a2 b2 s2 hk2 (by omega))
    have HRX := fun (x : World) => hide (rtext_good x k2 a2 b2 s2 ha2 hb2 hr2)
    rw [hr2] at HRR
    rw [show ba (textO k2 a2 b2 (str s2)) = y1 by rw [ht2, ba_str]] at HRX
    have hyy : (y1.toList == y1.toList) = true := beq_self_eq_true _
    unfold opV at *
    have HBY := hide (Below.refl (wr.alloc (.cells #[.int .u8 (k2 : Int), .int .u64 (a2 : Int), .int .u64 (b2 : Int), .string s2] 33)).heap.size (wr.alloc (.cells #[.int .u8 (k2 : Int), .int .u64 (a2 : Int), .int .u64 (b2 : Int), .string s2] 33)))
    by_cases hwq : wn = fl
    · have WQ := Lib.hid (HWN.out.trans hwq)
      have wq : (wn.toList == fl.toList) = true := by rw [hwq]; exact beq_self_eq_true _
      clear hwq
      by_cases ha0 : 0 < a
      · have A0 := Lib.hid ha0
        have a01 : decide ((0 : Int) < (a : Int)) = true := decide_eq_true (by omega)
        have a02 : decide (0 < a) = true := decide_eq_true (by omega)
        by_cases hb0 : 0 < b
        · have B0 := Lib.hid hb0
          have b01 : decide ((0 : Int) < (b : Int)) = true := decide_eq_true (by omega)
          have b02 : decide (0 < b) = true := decide_eq_true (by omega)
          have hfl : str (⟨#[65, 66]⟩ : ByteArray) = flagsK k := by rw [WQ.out, ← HFL.out, str_ba (flags_byte k HK1.out.2)]
          have hABN := flags_tell_6 k HK1.out.2 HK1.out.1 hfl.symm
          obtain ⟨hA, hB, hN⟩ := hABN
          have hR : rightO k a b (str ⟨#[]⟩) = true := by
            unfold rightO
            rw [decide_eq_true HK1.out, hA, hB, hN]
            rw [decide_eq_true (show a ≠ 0 by have := A0.out; omega)]
            rw [decide_eq_true (show b ≠ 0 by have := B0.out; omega)]
            skip
            rfl
          have hT : textO k a b (str ⟨#[]⟩) = str y1 := by
            rw [← HY1.out, str_append, ← HX1.out, str_append, ← HY0.out, str_append, ← HX0.out, str_append, sp_str, ← HWD.out, str_ba (word_byte k HK1.out.2), ← HDA0.out, str_ba (decL_byte a), ← HDB0.out, str_ba (decL_byte b)]
            unfold textO partsO optL
            rw [hA, hB, hN]
            simp [joinT]
          have hal : a < 18446744073709551616 := by have := HBD.out; omega
          have hbl : b < 18446744073709551616 := by have := HBD.out; omega
          have hkk := (textO_inj hr2 hR ha2 hb2 hal hbl (ht2.trans hT.symm)).1
          have hk2k : ((k2 : Int) == (k : Int)) = true := by rw [beq_iff_eq, hkk]
          clear hR hT hA hB hN hfl hkk hal hbl
          clear hr2 ht2
          go_wp2_with (first
            | (go_at_call 15; (with_reducible refine (unhide (HOW _)).mono ?_); rintro e w6 ⟨rfl, hb⟩; go_loud (have HBY := hide ((unhide HBY).trans (hb.mono (unhide HBY).size)); obtain ⟨z0, z1, z2, z3⟩ := box4 (unhide HBY); clear hb))
            | (go_at_call 14; (with_reducible refine (unhide (HRR _)).mono ?_); rintro e w7 ⟨rfl, hb⟩; go_loud (have HBY := hide ((unhide HBY).trans (hb.mono (unhide HBY).size)); obtain ⟨z0, z1, z2, z3⟩ := box4 (unhide HBY); clear hb))
            | (go_at_call 16; (with_reducible refine (unhide (HRX _)).mono ?_); rintro e w8 ⟨rfl, hb⟩; go_loud (have HBY := hide ((unhide HBY).trans (hb.mono (unhide HBY).size)); obtain ⟨z0, z1, z2, z3⟩ := box4 (unhide HBY); clear hb)))
          all_goals (go_ret; exact ⟨rfl, ridec (unhide HBY) ((unhide HBC).alloc (unhide HBC).size _)⟩)
        · have b01 : decide ((0 : Int) < (b : Int)) = false := decide_eq_false (by omega)
          have b02 : decide (0 < b) = false := decide_eq_false (by omega)
          obtain rfl : b = 0 := by omega
          clear hb0
          clear hr2 ht2
          go_wp2_with (first
            | (go_at_call 15; (with_reducible refine (unhide (HOW _)).mono ?_); rintro e w6 ⟨rfl, hb⟩; go_loud (have HBY := hide ((unhide HBY).trans (hb.mono (unhide HBY).size)); obtain ⟨z0, z1, z2, z3⟩ := box4 (unhide HBY); clear hb))
            | (go_at_call 14; (with_reducible refine (unhide (HRR _)).mono ?_); rintro e w7 ⟨rfl, hb⟩; go_loud (have HBY := hide ((unhide HBY).trans (hb.mono (unhide HBY).size)); obtain ⟨z0, z1, z2, z3⟩ := box4 (unhide HBY); clear hb))
            | (go_at_call 16; (with_reducible refine (unhide (HRX _)).mono ?_); rintro e w8 ⟨rfl, hb⟩; go_loud (have HBY := hide ((unhide HBY).trans (hb.mono (unhide HBY).size)); obtain ⟨z0, z1, z2, z3⟩ := box4 (unhide HBY); clear hb)))
          all_goals (go_ret; exact ⟨rfl, ridec (unhide HBY) ((unhide HBC).alloc (unhide HBC).size _)⟩)
      · have a01 : decide ((0 : Int) < (a : Int)) = false := decide_eq_false (by omega)
        have a02 : decide (0 < a) = false := decide_eq_false (by omega)
        obtain rfl : a = 0 := by omega
        clear ha0
        clear hr2 ht2
        go_wp2_with (first
          | (go_at_call 15; (with_reducible refine (unhide (HOW _)).mono ?_); rintro e w6 ⟨rfl, hb⟩; go_loud (have HBY := hide ((unhide HBY).trans (hb.mono (unhide HBY).size)); obtain ⟨z0, z1, z2, z3⟩ := box4 (unhide HBY); clear hb))
          | (go_at_call 14; (with_reducible refine (unhide (HRR _)).mono ?_); rintro e w7 ⟨rfl, hb⟩; go_loud (have HBY := hide ((unhide HBY).trans (hb.mono (unhide HBY).size)); obtain ⟨z0, z1, z2, z3⟩ := box4 (unhide HBY); clear hb))
          | (go_at_call 16; (with_reducible refine (unhide (HRX _)).mono ?_); rintro e w8 ⟨rfl, hb⟩; go_loud (have HBY := hide ((unhide HBY).trans (hb.mono (unhide HBY).size)); obtain ⟨z0, z1, z2, z3⟩ := box4 (unhide HBY); clear hb)))
        all_goals (go_ret; exact ⟨rfl, ridec (unhide HBY) ((unhide HBC).alloc (unhide HBC).size _)⟩)
    · have wq := toL_ne hwq
      clear hwq
      clear hr2 ht2
      go_wp2_with (first
        | (go_at_call 15; (with_reducible refine (unhide (HOW _)).mono ?_); rintro e w6 ⟨rfl, hb⟩; go_loud (have HBY := hide ((unhide HBY).trans (hb.mono (unhide HBY).size)); obtain ⟨z0, z1, z2, z3⟩ := box4 (unhide HBY); clear hb))
        | (go_at_call 14; (with_reducible refine (unhide (HRR _)).mono ?_); rintro e w7 ⟨rfl, hb⟩; go_loud (have HBY := hide ((unhide HBY).trans (hb.mono (unhide HBY).size)); obtain ⟨z0, z1, z2, z3⟩ := box4 (unhide HBY); clear hb))
        | (go_at_call 16; (with_reducible refine (unhide (HRX _)).mono ?_); rintro e w8 ⟨rfl, hb⟩; go_loud (have HBY := hide ((unhide HBY).trans (hb.mono (unhide HBY).size)); obtain ⟨z0, z1, z2, z3⟩ := box4 (unhide HBY); clear hb)))
      all_goals (go_ret; exact ⟨rfl, ridec (unhide HBY) ((unhide HBC).alloc (unhide HBC).size _)⟩)
  · rw [show opV 0 0 0 ⟨#[]⟩ = .agg #[.int .u8 0, .int .u64 0, .int .u64 0, .string ⟨#[]⟩] from rfl]
    have HBY := hide (Below.refl (wr.alloc (.cells #[.int .u8 0, .int .u64 0, .int .u64 0, .string ⟨#[]⟩] 33)).heap.size (wr.alloc (.cells #[.int .u8 0, .int .u64 0, .int .u64 0, .string ⟨#[]⟩] 33)))
    by_cases hwq : wn = fl
    · have WQ := Lib.hid (HWN.out.trans hwq)
      have wq : (wn.toList == fl.toList) = true := by rw [hwq]; exact beq_self_eq_true _
      clear hwq
      by_cases ha0 : 0 < a
      · have A0 := Lib.hid ha0
        have a01 : decide ((0 : Int) < (a : Int)) = true := decide_eq_true (by omega)
        have a02 : decide (0 < a) = true := decide_eq_true (by omega)
        by_cases hb0 : 0 < b
        · have B0 := Lib.hid hb0
          have b01 : decide ((0 : Int) < (b : Int)) = true := decide_eq_true (by omega)
          have b02 : decide (0 < b) = true := decide_eq_true (by omega)
          have hfl : str (⟨#[65, 66]⟩ : ByteArray) = flagsK k := by rw [WQ.out, ← HFL.out, str_ba (flags_byte k HK1.out.2)]
          have hABN := flags_tell_6 k HK1.out.2 HK1.out.1 hfl.symm
          obtain ⟨hA, hB, hN⟩ := hABN
          have hR : rightO k a b (str ⟨#[]⟩) = true := by
            unfold rightO
            rw [decide_eq_true HK1.out, hA, hB, hN]
            rw [decide_eq_true (show a ≠ 0 by have := A0.out; omega)]
            rw [decide_eq_true (show b ≠ 0 by have := B0.out; omega)]
            skip
            rfl
          have hT : textO k a b (str ⟨#[]⟩) = str y1 := by
            rw [← HY1.out, str_append, ← HX1.out, str_append, ← HY0.out, str_append, ← HX0.out, str_append, sp_str, ← HWD.out, str_ba (word_byte k HK1.out.2), ← HDA0.out, str_ba (decL_byte a), ← HDB0.out, str_ba (decL_byte b)]
            unfold textO partsO optL
            rw [hA, hB, hN]
            simp [joinT]
          have hal : a < 18446744073709551616 := by have := HBD.out; omega
          have hbl : b < 18446744073709551616 := by have := HBD.out; omega
          exact absurd hT (hno k a b ⟨#[]⟩ hal hbl hR)
        · have b01 : decide ((0 : Int) < (b : Int)) = false := decide_eq_false (by omega)
          have b02 : decide (0 < b) = false := decide_eq_false (by omega)
          obtain rfl : b = 0 := by omega
          clear hb0
          clear hno
          go_wp2
          all_goals (go_ret; exact ⟨rfl, ridec (unhide HBY) ((unhide HBC).alloc (unhide HBC).size _)⟩)
      · have a01 : decide ((0 : Int) < (a : Int)) = false := decide_eq_false (by omega)
        have a02 : decide (0 < a) = false := decide_eq_false (by omega)
        obtain rfl : a = 0 := by omega
        clear ha0
        clear hno
        go_wp2
        all_goals (go_ret; exact ⟨rfl, ridec (unhide HBY) ((unhide HBC).alloc (unhide HBC).size _)⟩)
    · have wq := toL_ne hwq
      clear hwq
      clear hno
      go_wp2
      all_goals (go_ret; exact ⟨rfl, ridec (unhide HBY) ((unhide HBC).alloc (unhide HBC).size _)⟩)
set_option maxRecDepth 100000 in
set_option maxHeartbeats 4000000 in
theorem reads_7 (w : World) (m a b h : Nat) (nm0 : ByteArray) (hm : m < 256) (ha : a < 4294967296) (hb : b < 4294967296) (hh : h < 256) (hs : nm0.size ≤ 9223372036854775807) (hv : Vo w) (he : Ve w)
    (h1 : ((h : Int) % 2 == 1) = true) (h2 : ((h : Int) / 2 % 2 == 1) = true) (h3 : ((h : Int) / 4 % 2 == 1) = true) (g1 : ((h : Int) % 2 == 0) = false) (g2 : ((h : Int) / 2 % 2 == 0) = false) (g3 : ((h : Int) / 4 % 2 == 0) = false) :
    Calls Tryd.prog 4 #[.int .u8 (m : Int), .int .u32 (a : Int), .int .u32 (b : Int), .string nm0, .int .u8 (h : Int)] w fun e w' => e = .returned (.bool true) ∧ Below w.heap.size w w' := by
  have HAW := hide (opawake w hv)
  have HTX := fun (x : World) => hide (text_any x nm0 70 hs)
  rw [show ((70 : Nat) : Int) = 70 from rfl] at HTX
  obtain ⟨nm, hnm⟩ : ∃ nm, nm0.extract 0 (min nm0.size 70) = nm := ⟨_, rfl⟩
  have hnl : nm.size ≤ 70 := by rw [← hnm, ByteArray.size_extract]; omega
  rw [hnm] at HTX
  obtain ⟨k, hk⟩ : ∃ k : Nat, 1 + (m : Int) % 14 = (k : Int) := ⟨1 + m % 14, by omega⟩
  have hk1 : 1 ≤ k ∧ k ≤ 14 := by omega
  have HP := fun (x : World) => hide (parts_any x k (by omega))
  have HDA := fun (x : World) => hide (dec_any a x (by omega))
  have HDB := fun (x : World) => hide (dec_any b x (by omega))
  obtain ⟨wd, hwd⟩ : ∃ wd, ba (wordK k) = wd := ⟨_, rfl⟩
  obtain ⟨da, hda⟩ : ∃ da, ba (decL a) = da := ⟨_, rfl⟩
  obtain ⟨db, hdb⟩ : ∃ db, ba (decL b) = db := ⟨_, rfl⟩
  obtain ⟨fl, hfl⟩ : ∃ fl, ba (flagsK k) = fl := ⟨_, rfl⟩
  have hwl : wd.size ≤ 13 := by rw [← hwd, ba_size]; exact word_len k hk1.2
  have hal : da.size ≤ 20 := by rw [← hda, ba_size]; exact decL_20 (by omega)
  have hbl : db.size ≤ 20 := by rw [← hdb, ba_size]; exact decL_20 (by omega)
  rw [hwd, hfl] at HP
  rw [hda] at HDA
  rw [hdb] at HDB
  obtain ⟨x0, hx0⟩ : ∃ x, wd ++ (⟨#[32]⟩ : ByteArray) = x := ⟨_, rfl⟩
  obtain ⟨y0, hy0⟩ : ∃ y, x0 ++ da = y := ⟨_, rfl⟩
  have zx0 : x0.size = wd.size + 1 := by rw [← hx0, ByteArray.size_append]; rfl
  have zy0 : y0.size = x0.size + da.size := by rw [← hy0, ByteArray.size_append]
  have c0 : ¬ 9223372036854775807 < wd.size + (⟨#[32]⟩ : ByteArray).size := by rw [show (⟨#[32]⟩ : ByteArray).size = 1 from rfl]; omega
  have d0 : ¬ 9223372036854775807 < wd.size + 1 := by omega
  have e0 : ¬ 9223372036854775807 < x0.size + da.size := by omega
  have HX0 := Lib.hid hx0
  have HY0 := Lib.hid hy0
  obtain ⟨x1, hx1⟩ : ∃ x, y0 ++ (⟨#[32]⟩ : ByteArray) = x := ⟨_, rfl⟩
  obtain ⟨y1, hy1⟩ : ∃ y, x1 ++ db = y := ⟨_, rfl⟩
  have zx1 : x1.size = y0.size + 1 := by rw [← hx1, ByteArray.size_append]; rfl
  have zy1 : y1.size = x1.size + db.size := by rw [← hy1, ByteArray.size_append]
  have c1 : ¬ 9223372036854775807 < y0.size + (⟨#[32]⟩ : ByteArray).size := by rw [show (⟨#[32]⟩ : ByteArray).size = 1 from rfl]; omega
  have d1 : ¬ 9223372036854775807 < y0.size + 1 := by omega
  have e1 : ¬ 9223372036854775807 < x1.size + db.size := by omega
  have HX1 := Lib.hid hx1
  have HY1 := Lib.hid hy1
  obtain ⟨x2, hx2⟩ : ∃ x, y1 ++ (⟨#[32]⟩ : ByteArray) = x := ⟨_, rfl⟩
  obtain ⟨y2, hy2⟩ : ∃ y, x2 ++ nm = y := ⟨_, rfl⟩
  have zx2 : x2.size = y1.size + 1 := by rw [← hx2, ByteArray.size_append]; rfl
  have zy2 : y2.size = x2.size + nm.size := by rw [← hy2, ByteArray.size_append]
  have c2 : ¬ 9223372036854775807 < y1.size + (⟨#[32]⟩ : ByteArray).size := by rw [show (⟨#[32]⟩ : ByteArray).size = 1 from rfl]; omega
  have d2 : ¬ 9223372036854775807 < y1.size + 1 := by omega
  have e2 : ¬ 9223372036854775807 < x2.size + nm.size := by omega
  have HX2 := Lib.hid hx2
  have HY2 := Lib.hid hy2
  have w0 : (⟨#[]⟩ : ByteArray) ++ ⟨#[65]⟩ = ⟨#[65]⟩ := rfl
  have w1 : (⟨#[65]⟩ : ByteArray) ++ ⟨#[66]⟩ = ⟨#[65, 66]⟩ := rfl
  obtain ⟨wn, hwn⟩ : ∃ wn, (⟨#[65, 66, 78]⟩ : ByteArray) = wn := ⟨_, rfl⟩
  have w2 : (⟨#[65, 66]⟩ : ByteArray) ++ ⟨#[78]⟩ = wn := hwn
  have HWN := Lib.hid hwn
  clear hwn
  have hLs : y2.size ≤ 1000000 := by omega
  have HLs := Lib.hid hLs
  have HNL := Lib.hid hnl
  have HK1 := Lib.hid hk1
  have HWD := Lib.hid hwd
  have HDA0 := Lib.hid hda
  have HDB0 := Lib.hid hdb
  have HFL := Lib.hid hfl
  have HV := Lib.hid hv
  have HE := Lib.hid he
  have HBD := Lib.hid (And.intro ha hb)
  clear hwl hal hbl hLs hnl hk1 hwd hda hdb hfl hv he hnm hs zx0 zy0 zx1 zy1 zx2 zy2
  go_enter Tryd.func4, Tryd.ntmps4
  go_wp2_with (first
    | (go_at_call 7; (with_reducible refine (unhide HAW).mono ?_); rintro e w1 ⟨rfl, hb1⟩; go_loud (
        have HBC := hide hb1;
        clear hb1))
    | (go_at_call 10; (with_reducible refine (unhide (HTX _)).mono ?_); rintro e w2 ⟨rfl, hw⟩; rw [← hw]; clear hw w2)
    | (go_at_call 8; (with_reducible refine (unhide (HP _)).mono ?_); rintro e w3 ⟨rfl, hb3⟩; go_loud (
        have HBC := hide (ridec hb3 (unhide HBC));
        clear hb3))
    | (go_at_call 11; (with_reducible refine (unhide (HDA _)).mono ?_); rintro e w4 ⟨rfl, hw⟩; rw [← hw]; clear hw w4)
    | (go_at_call 11; (with_reducible refine (unhide (HDB _)).mono ?_); rintro e w4 ⟨rfl, hw⟩; rw [← hw]; clear hw w4))
  have HNM := fun (x : World) => hide (rname14_any x nm (by have := HNL.out; omega))
  refine (oread_any _ y2 HLs.out (HV.out.below (unhide HBC)) (HE.out.below (unhide HBC))).mono ?_
  rintro e wr ⟨hbr, hres⟩
  have HBC := hide (ridec hbr (unhide HBC))
  clear hbr
  rcases hres with ⟨k2, a2, b2, s2, hk2, ha2, hb2, hs2, hr2, ht2, rfl⟩ | ⟨rfl, hno⟩
  · have HOW := fun (x : World) => hide (own_any x k2 a2 b2 s2)
    have HRR := fun (x : World) => hide (rright_any x k2 a2 b2 s2 hk2 (by omega))
    have HRX := fun (x : World) => hide (rtext_good x k2 a2 b2 s2 ha2 hb2 hr2)
    rw [hr2] at HRR
    rw [show ba (textO k2 a2 b2 (str s2)) = y2 by rw [ht2, ba_str]] at HRX
    have hyy : (y2.toList == y2.toList) = true := beq_self_eq_true _
    unfold opV at *
    have HBY := hide (Below.refl (wr.alloc (.cells #[.int .u8 (k2 : Int), .int .u64 (a2 : Int), .int .u64 (b2 : Int), .string s2] 33)).heap.size (wr.alloc (.cells #[.int .u8 (k2 : Int), .int .u64 (a2 : Int), .int .u64 (b2 : Int), .string s2] 33)))
    by_cases hwq : wn = fl
    · have WQ := Lib.hid (HWN.out.trans hwq)
      have wq : (wn.toList == fl.toList) = true := by rw [hwq]; exact beq_self_eq_true _
      clear hwq
      by_cases ha0 : 0 < a
      · have A0 := Lib.hid ha0
        have a01 : decide ((0 : Int) < (a : Int)) = true := decide_eq_true (by omega)
        have a02 : decide (0 < a) = true := decide_eq_true (by omega)
        by_cases hb0 : 0 < b
        · have B0 := Lib.hid hb0
          have b01 : decide ((0 : Int) < (b : Int)) = true := decide_eq_true (by omega)
          have b02 : decide (0 < b) = true := decide_eq_true (by omega)
          rcases hnq : isNm (str nm) with _ | _
          · rw [hnq] at HNM
            clear hnq
            clear hr2 ht2
            go_wp2_with (first
              | (go_at_call 13; (with_reducible refine (unhide (HNM _)).mono ?_); rintro e w5 ⟨rfl, hb⟩; go_loud (have HBY := hide ((unhide HBY).trans (hb.mono (unhide HBY).size)); obtain ⟨z0, z1, z2, z3⟩ := box4 (unhide HBY); clear hb))
              | (go_at_call 15; (with_reducible refine (unhide (HOW _)).mono ?_); rintro e w6 ⟨rfl, hb⟩; go_loud (have HBY := hide ((unhide HBY).trans (hb.mono (unhide HBY).size)); obtain ⟨z0, z1, z2, z3⟩ := box4 (unhide HBY); clear hb))
              | (go_at_call 14; (with_reducible refine (unhide (HRR _)).mono ?_); rintro e w7 ⟨rfl, hb⟩; go_loud (have HBY := hide ((unhide HBY).trans (hb.mono (unhide HBY).size)); obtain ⟨z0, z1, z2, z3⟩ := box4 (unhide HBY); clear hb))
              | (go_at_call 16; (with_reducible refine (unhide (HRX _)).mono ?_); rintro e w8 ⟨rfl, hb⟩; go_loud (have HBY := hide ((unhide HBY).trans (hb.mono (unhide HBY).size)); obtain ⟨z0, z1, z2, z3⟩ := box4 (unhide HBY); clear hb)))
            all_goals (go_ret; exact ⟨rfl, ridec (unhide HBY) ((unhide HBC).alloc (unhide HBC).size _)⟩)
          · rw [hnq] at HNM
            have NQ := Lib.hid hnq
            clear hnq
            have hfl : str (⟨#[65, 66, 78]⟩ : ByteArray) = flagsK k := by rw [WQ.out, ← HFL.out, str_ba (flags_byte k HK1.out.2)]
            have hABN := flags_tell_7 k HK1.out.2 HK1.out.1 hfl.symm
            obtain ⟨hA, hB, hN⟩ := hABN
            have hR : rightO k a b (str nm) = true := by
              unfold rightO
              rw [decide_eq_true HK1.out, hA, hB, hN]
              rw [decide_eq_true (show a ≠ 0 by have := A0.out; omega)]
              rw [decide_eq_true (show b ≠ 0 by have := B0.out; omega)]
              rw [NQ.out]
              rfl
            have hT : textO k a b (str nm) = str y2 := by
              rw [← HY2.out, str_append, ← HX2.out, str_append, ← HY1.out, str_append, ← HX1.out, str_append, ← HY0.out, str_append, ← HX0.out, str_append, sp_str, ← HWD.out, str_ba (word_byte k HK1.out.2), ← HDA0.out, str_ba (decL_byte a), ← HDB0.out, str_ba (decL_byte b)]
              unfold textO partsO optL
              rw [hA, hB, hN]
              simp [joinT]
            have hal : a < 18446744073709551616 := by have := HBD.out; omega
            have hbl : b < 18446744073709551616 := by have := HBD.out; omega
            have hkk := (textO_inj hr2 hR ha2 hb2 hal hbl (ht2.trans hT.symm)).1
            have hk2k : ((k2 : Int) == (k : Int)) = true := by rw [beq_iff_eq, hkk]
            clear hR hT hA hB hN hfl hkk hal hbl
            clear hr2 ht2
            go_wp2_with (first
              | (go_at_call 13; (with_reducible refine (unhide (HNM _)).mono ?_); rintro e w5 ⟨rfl, hb⟩; go_loud (have HBY := hide ((unhide HBY).trans (hb.mono (unhide HBY).size)); obtain ⟨z0, z1, z2, z3⟩ := box4 (unhide HBY); clear hb))
              | (go_at_call 15; (with_reducible refine (unhide (HOW _)).mono ?_); rintro e w6 ⟨rfl, hb⟩; go_loud (have HBY := hide ((unhide HBY).trans (hb.mono (unhide HBY).size)); obtain ⟨z0, z1, z2, z3⟩ := box4 (unhide HBY); clear hb))
              | (go_at_call 14; (with_reducible refine (unhide (HRR _)).mono ?_); rintro e w7 ⟨rfl, hb⟩; go_loud (have HBY := hide ((unhide HBY).trans (hb.mono (unhide HBY).size)); obtain ⟨z0, z1, z2, z3⟩ := box4 (unhide HBY); clear hb))
              | (go_at_call 16; (with_reducible refine (unhide (HRX _)).mono ?_); rintro e w8 ⟨rfl, hb⟩; go_loud (have HBY := hide ((unhide HBY).trans (hb.mono (unhide HBY).size)); obtain ⟨z0, z1, z2, z3⟩ := box4 (unhide HBY); clear hb)))
            all_goals (go_ret; exact ⟨rfl, ridec (unhide HBY) ((unhide HBC).alloc (unhide HBC).size _)⟩)
        · have b01 : decide ((0 : Int) < (b : Int)) = false := decide_eq_false (by omega)
          have b02 : decide (0 < b) = false := decide_eq_false (by omega)
          obtain rfl : b = 0 := by omega
          clear hb0
          clear hr2 ht2
          go_wp2_with (first
            | (go_at_call 15; (with_reducible refine (unhide (HOW _)).mono ?_); rintro e w6 ⟨rfl, hb⟩; go_loud (have HBY := hide ((unhide HBY).trans (hb.mono (unhide HBY).size)); obtain ⟨z0, z1, z2, z3⟩ := box4 (unhide HBY); clear hb))
            | (go_at_call 14; (with_reducible refine (unhide (HRR _)).mono ?_); rintro e w7 ⟨rfl, hb⟩; go_loud (have HBY := hide ((unhide HBY).trans (hb.mono (unhide HBY).size)); obtain ⟨z0, z1, z2, z3⟩ := box4 (unhide HBY); clear hb))
            | (go_at_call 16; (with_reducible refine (unhide (HRX _)).mono ?_); rintro e w8 ⟨rfl, hb⟩; go_loud (have HBY := hide ((unhide HBY).trans (hb.mono (unhide HBY).size)); obtain ⟨z0, z1, z2, z3⟩ := box4 (unhide HBY); clear hb)))
          all_goals (go_ret; exact ⟨rfl, ridec (unhide HBY) ((unhide HBC).alloc (unhide HBC).size _)⟩)
      · have a01 : decide ((0 : Int) < (a : Int)) = false := decide_eq_false (by omega)
        have a02 : decide (0 < a) = false := decide_eq_false (by omega)
        obtain rfl : a = 0 := by omega
        clear ha0
        clear hr2 ht2
        go_wp2_with (first
          | (go_at_call 15; (with_reducible refine (unhide (HOW _)).mono ?_); rintro e w6 ⟨rfl, hb⟩; go_loud (have HBY := hide ((unhide HBY).trans (hb.mono (unhide HBY).size)); obtain ⟨z0, z1, z2, z3⟩ := box4 (unhide HBY); clear hb))
          | (go_at_call 14; (with_reducible refine (unhide (HRR _)).mono ?_); rintro e w7 ⟨rfl, hb⟩; go_loud (have HBY := hide ((unhide HBY).trans (hb.mono (unhide HBY).size)); obtain ⟨z0, z1, z2, z3⟩ := box4 (unhide HBY); clear hb))
          | (go_at_call 16; (with_reducible refine (unhide (HRX _)).mono ?_); rintro e w8 ⟨rfl, hb⟩; go_loud (have HBY := hide ((unhide HBY).trans (hb.mono (unhide HBY).size)); obtain ⟨z0, z1, z2, z3⟩ := box4 (unhide HBY); clear hb)))
        all_goals (go_ret; exact ⟨rfl, ridec (unhide HBY) ((unhide HBC).alloc (unhide HBC).size _)⟩)
    · have wq := toL_ne hwq
      clear hwq
      clear hr2 ht2
      go_wp2_with (first
        | (go_at_call 15; (with_reducible refine (unhide (HOW _)).mono ?_); rintro e w6 ⟨rfl, hb⟩; go_loud (have HBY := hide ((unhide HBY).trans (hb.mono (unhide HBY).size)); obtain ⟨z0, z1, z2, z3⟩ := box4 (unhide HBY); clear hb))
        | (go_at_call 14; (with_reducible refine (unhide (HRR _)).mono ?_); rintro e w7 ⟨rfl, hb⟩; go_loud (have HBY := hide ((unhide HBY).trans (hb.mono (unhide HBY).size)); obtain ⟨z0, z1, z2, z3⟩ := box4 (unhide HBY); clear hb))
        | (go_at_call 16; (with_reducible refine (unhide (HRX _)).mono ?_); rintro e w8 ⟨rfl, hb⟩; go_loud (have HBY := hide ((unhide HBY).trans (hb.mono (unhide HBY).size)); obtain ⟨z0, z1, z2, z3⟩ := box4 (unhide HBY); clear hb)))
      all_goals (go_ret; exact ⟨rfl, ridec (unhide HBY) ((unhide HBC).alloc (unhide HBC).size _)⟩)
  · rw [show opV 0 0 0 ⟨#[]⟩ = .agg #[.int .u8 0, .int .u64 0, .int .u64 0, .string ⟨#[]⟩] from rfl]
    have HBY := hide (Below.refl (wr.alloc (.cells #[.int .u8 0, .int .u64 0, .int .u64 0, .string ⟨#[]⟩] 33)).heap.size (wr.alloc (.cells #[.int .u8 0, .int .u64 0, .int .u64 0, .string ⟨#[]⟩] 33)))
    by_cases hwq : wn = fl
    · have WQ := Lib.hid (HWN.out.trans hwq)
      have wq : (wn.toList == fl.toList) = true := by rw [hwq]; exact beq_self_eq_true _
      clear hwq
      by_cases ha0 : 0 < a
      · have A0 := Lib.hid ha0
        have a01 : decide ((0 : Int) < (a : Int)) = true := decide_eq_true (by omega)
        have a02 : decide (0 < a) = true := decide_eq_true (by omega)
        by_cases hb0 : 0 < b
        · have B0 := Lib.hid hb0
          have b01 : decide ((0 : Int) < (b : Int)) = true := decide_eq_true (by omega)
          have b02 : decide (0 < b) = true := decide_eq_true (by omega)
          rcases hnq : isNm (str nm) with _ | _
          · rw [hnq] at HNM
            clear hnq
            clear hno
            go_wp2_with (first
              | (go_at_call 13; (with_reducible refine (unhide (HNM _)).mono ?_); rintro e w5 ⟨rfl, hb⟩; go_loud (have HBY := hide ((unhide HBY).trans (hb.mono (unhide HBY).size)); obtain ⟨z0, z1, z2, z3⟩ := box4 (unhide HBY); clear hb)))
            all_goals (go_ret; exact ⟨rfl, ridec (unhide HBY) ((unhide HBC).alloc (unhide HBC).size _)⟩)
          · rw [hnq] at HNM
            have NQ := Lib.hid hnq
            clear hnq
            have hfl : str (⟨#[65, 66, 78]⟩ : ByteArray) = flagsK k := by rw [WQ.out, ← HFL.out, str_ba (flags_byte k HK1.out.2)]
            have hABN := flags_tell_7 k HK1.out.2 HK1.out.1 hfl.symm
            obtain ⟨hA, hB, hN⟩ := hABN
            have hR : rightO k a b (str nm) = true := by
              unfold rightO
              rw [decide_eq_true HK1.out, hA, hB, hN]
              rw [decide_eq_true (show a ≠ 0 by have := A0.out; omega)]
              rw [decide_eq_true (show b ≠ 0 by have := B0.out; omega)]
              rw [NQ.out]
              rfl
            have hT : textO k a b (str nm) = str y2 := by
              rw [← HY2.out, str_append, ← HX2.out, str_append, ← HY1.out, str_append, ← HX1.out, str_append, ← HY0.out, str_append, ← HX0.out, str_append, sp_str, ← HWD.out, str_ba (word_byte k HK1.out.2), ← HDA0.out, str_ba (decL_byte a), ← HDB0.out, str_ba (decL_byte b)]
              unfold textO partsO optL
              rw [hA, hB, hN]
              simp [joinT]
            have hal : a < 18446744073709551616 := by have := HBD.out; omega
            have hbl : b < 18446744073709551616 := by have := HBD.out; omega
            exact absurd hT (hno k a b nm hal hbl hR)
        · have b01 : decide ((0 : Int) < (b : Int)) = false := decide_eq_false (by omega)
          have b02 : decide (0 < b) = false := decide_eq_false (by omega)
          obtain rfl : b = 0 := by omega
          clear hb0
          clear hno
          go_wp2
          all_goals (go_ret; exact ⟨rfl, ridec (unhide HBY) ((unhide HBC).alloc (unhide HBC).size _)⟩)
      · have a01 : decide ((0 : Int) < (a : Int)) = false := decide_eq_false (by omega)
        have a02 : decide (0 < a) = false := decide_eq_false (by omega)
        obtain rfl : a = 0 := by omega
        clear ha0
        clear hno
        go_wp2
        all_goals (go_ret; exact ⟨rfl, ridec (unhide HBY) ((unhide HBC).alloc (unhide HBC).size _)⟩)
    · have wq := toL_ne hwq
      clear hwq
      clear hno
      go_wp2
      all_goals (go_ret; exact ⟨rfl, ridec (unhide HBY) ((unhide HBC).alloc (unhide HBC).size _)⟩)
end Go.Proofs.YtblchmcnbcfaaaaDoor
namespace Go.Proofs.YtblchmcnbcfaaaaDoor
open Go.RowKit
set_option linter.unusedVariables false
set_option linter.unusedSimpArgs false
theorem reads_core (w : World) (m a b h : Nat) (nm0 : ByteArray) (hm : m < 256) (ha : a < 4294967296) (hb : b < 4294967296) (hh : h < 256) (hs : nm0.size ≤ 9223372036854775807) (hv : Vo w) (he : Ve w) :
    Calls Tryd.prog 4 #[.int .u8 (m : Int), .int .u32 (a : Int), .int .u32 (b : Int), .string nm0, .int .u8 (h : Int)] w fun e w' => e = .returned (.bool true) ∧ Below w.heap.size w w' := by
  have key : ∀ (x : Int) (v : Bool), x = 0 ∨ x = 1 → (x == 1) = v → (x == 0) = !v := by
    rintro x v (rfl | rfl) rfl <;> rfl
  have k1 := key ((h : Int) % 2)
  have k2 := key ((h : Int) / 2 % 2)
  have k3 := key ((h : Int) / 4 % 2)
  rcases h1 : ((h : Int) % 2 == 1) with _ | _ <;> rcases h2 : ((h : Int) / 2 % 2 == 1) with _ | _ <;> rcases h3 : ((h : Int) / 4 % 2 == 1) with _ | _
  · exact reads_0 w m a b h nm0 hm ha hb hh hs hv he h1 h2 h3 (k1 _ (by omega) h1) (k2 _ (by omega) h2) (k3 _ (by omega) h3)
  · exact reads_1 w m a b h nm0 hm ha hb hh hs hv he h1 h2 h3 (k1 _ (by omega) h1) (k2 _ (by omega) h2) (k3 _ (by omega) h3)
  · exact reads_2 w m a b h nm0 hm ha hb hh hs hv he h1 h2 h3 (k1 _ (by omega) h1) (k2 _ (by omega) h2) (k3 _ (by omega) h3)
  · exact reads_3 w m a b h nm0 hm ha hb hh hs hv he h1 h2 h3 (k1 _ (by omega) h1) (k2 _ (by omega) h2) (k3 _ (by omega) h3)
  · exact reads_4 w m a b h nm0 hm ha hb hh hs hv he h1 h2 h3 (k1 _ (by omega) h1) (k2 _ (by omega) h2) (k3 _ (by omega) h3)
  · exact reads_5 w m a b h nm0 hm ha hb hh hs hv he h1 h2 h3 (k1 _ (by omega) h1) (k2 _ (by omega) h2) (k3 _ (by omega) h3)
  · exact reads_6 w m a b h nm0 hm ha hb hh hs hv he h1 h2 h3 (k1 _ (by omega) h1) (k2 _ (by omega) h2) (k3 _ (by omega) h3)
  · exact reads_7 w m a b h nm0 hm ha hb hh hs hv he h1 h2 h3 (k1 _ (by omega) h1) (k2 _ (by omega) h2) (k3 _ (by omega) h3)
end Go.Proofs.YtblchmcnbcfaaaaDoor
