/- Contract: an operation's words as the reference has them. -/
import Derived.Test.YtfnobibjphnmdaaGreatDoorR4
import Derived.Test.YtfnobibjphnmdaaGreatDoorR5
import Derived.Test.YtfnobibjphnmdaaGreatDoorKDec
namespace Go.Proofs.YtfnobibjphnmdaaGreatDoor
open Go.RowKit
set_option linter.unusedVariables false
set_option linter.unusedSimpArgs false
theorem ba_size (l : List Nat) : (ba l).size = l.length := by
  unfold ba
  show (l.map UInt8.ofNat).toArray.size = _
  simp
theorem sp_str : str (⟨#[32]⟩ : ByteArray) = [32] := rfl
set_option maxRecDepth 100000 in
set_option maxHeartbeats 2000000 in
theorem rtext_0 (w : World) (k a b : Nat) (s : ByteArray) (hk : 1 ≤ k ∧ k ≤ 14) (ha : a < 18446744073709551616) (hb : b < 18446744073709551616) (hs : s.size ≤ 64) (hA : aK k = true) (hB : bK k = false) (hN : nK k = true) :
    Calls Tryz.prog 16 #[opV k a b s] w fun e w' => e = .returned (.string (ba (textO k a b (str s)))) ∧ Below w.heap.size w w' := by
  unfold opV
  have HP := fun (x : World) => hide (parts_any x k (by omega))
  have HHA := fun (x : World) => hide (has_kind x k 65 (.inl rfl) hk)
  have HHB := fun (x : World) => hide (has_kind x k 66 (.inr (.inl rfl)) hk)
  have HHN := fun (x : World) => hide (has_kind x k 78 (.inr (.inr rfl)) hk)
  rw [show letK k 65 = true from hA, show ((65 : Nat) : Int) = 65 from rfl] at HHA
  rw [show letK k 66 = false from hB, show ((66 : Nat) : Int) = 66 from rfl] at HHB
  rw [show letK k 78 = true from hN, show ((78 : Nat) : Int) = 78 from rfl] at HHN
  have HDA := fun (x : World) => hide (dec_any a x ha)
  have HDB := fun (x : World) => hide (dec_any b x hb)
  have hwl : (ba (wordK k)).size ≤ 13 := by rw [ba_size]; exact word_len k hk.2
  have hal : (ba (decL a)).size ≤ 20 := by rw [ba_size]; exact decL_20 ha
  have hbl : (ba (decL b)).size ≤ 20 := by rw [ba_size]; exact decL_20 hb
  have hres : ba (textO k a b (str s)) = ((ba (wordK k) ++ ((⟨#[32]⟩ : ByteArray) ++ ba (decL a))) ++ ((⟨#[32]⟩ : ByteArray) ++ s)) := by
    apply str_inj
    rw [str_ba]
    · simp only [str_append, sp_str, str_ba (word_byte k hk.2), str_ba (decL_byte _)]
      unfold textO partsO optL
      rw [hA, hB, hN]
      simp [joinT]
    · intro x hx
      unfold textO partsO optL at hx
      rw [hA, hB, hN] at hx
      simp only [joinT, if_true, Bool.false_eq_true, if_false, List.cons_append, List.nil_append, List.append_nil, List.mem_append, List.mem_cons] at hx
      have h1 := word_byte k hk.2 x
      have h2 := decL_byte a x
      have h3 := decL_byte b x
      have h4 := str_small s x
      have h5 : x = 32 → x < 256 := by omega
      repeat (first | (exact h1 hx) | (exact h2 hx) | (exact h3 hx) | (exact h4 hx) | (exact h5 hx) | (rcases hx with hx | hx))
  obtain ⟨wd, hwd⟩ : ∃ wd, ba (wordK k) = wd := ⟨_, rfl⟩
  obtain ⟨da, hda⟩ : ∃ da, ba (decL a) = da := ⟨_, rfl⟩
  obtain ⟨db, hdb⟩ : ∃ db, ba (decL b) = db := ⟨_, rfl⟩
  rw [hwd] at HP hwl
  rw [hda] at HDA hal
  rw [hdb] at HDB hbl
  rw [hwd, hda] at hres
  have HRES := Lib.hid hres
  have c0 : ¬ 9223372036854775807 < (⟨#[32]⟩ : ByteArray).size + da.size := by rw [show (⟨#[32]⟩ : ByteArray).size = 1 from rfl]; omega
  have d0 : ¬ 9223372036854775807 < 1 + da.size := by omega
  have e0 : ¬ 9223372036854775807 < wd.size + ((⟨#[32]⟩ : ByteArray) ++ da).size := by simp only [ByteArray.size_append, show (⟨#[32]⟩ : ByteArray).size = 1 from rfl]; omega
  have g0 : ¬ 9223372036854775807 < wd.size + (1 + da.size) := by omega
  have c1 : ¬ 9223372036854775807 < (⟨#[32]⟩ : ByteArray).size + s.size := by rw [show (⟨#[32]⟩ : ByteArray).size = 1 from rfl]; omega
  have d1 : ¬ 9223372036854775807 < 1 + s.size := by omega
  have e1 : ¬ 9223372036854775807 < (wd ++ ((⟨#[32]⟩ : ByteArray) ++ da)).size + ((⟨#[32]⟩ : ByteArray) ++ s).size := by simp only [ByteArray.size_append, show (⟨#[32]⟩ : ByteArray).size = 1 from rfl]; omega
  have g1 : ¬ 9223372036854775807 < (wd.size + (1 + da.size)) + (1 + s.size) := by omega
  clear hres hwd hda hdb hk ha hb hA hB hN hwl hal hbl hs
  go_enter Tryz.func16, Tryz.ntmps16
  go_wp2_with (first
    | (go_at_call 19; (with_reducible refine (unhide (HP _)).mono ?_); rintro e w1 ⟨rfl, hb1⟩; go_loud (
        have HBX := hide hb1;
        obtain ⟨z0, z1, z2, z3⟩ := box4 hb1;
        clear hb1))
    | (go_at_call 20; (with_reducible refine (unhide (HHA _)).mono ?_); rintro e w2 ⟨rfl, hw⟩; rw [hw]; clear hw w2)
    | (go_at_call 20; (with_reducible refine (unhide (HHB _)).mono ?_); rintro e w2 ⟨rfl, hw⟩; rw [hw]; clear hw w2)
    | (go_at_call 20; (with_reducible refine (unhide (HHN _)).mono ?_); rintro e w2 ⟨rfl, hw⟩; rw [hw]; clear hw w2)
    | (go_at_call 44; (with_reducible refine (unhide (HDA _)).mono ?_); rintro e w3 ⟨rfl, hw⟩; rw [← hw]; clear hw w3)
    | (go_at_call 44; (with_reducible refine (unhide (HDB _)).mono ?_); rintro e w3 ⟨rfl, hw⟩; rw [← hw]; clear hw w3))
  go_ret
  exact ⟨by rw [HRES.out]; rfl, opcells (unhide HBX)⟩
set_option maxRecDepth 100000 in
set_option maxHeartbeats 2000000 in
theorem rtext_1 (w : World) (k a b : Nat) (s : ByteArray) (hk : 1 ≤ k ∧ k ≤ 14) (ha : a < 18446744073709551616) (hb : b < 18446744073709551616) (hs : s.size ≤ 64) (hA : aK k = true) (hB : bK k = false) (hN : nK k = false) :
    Calls Tryz.prog 16 #[opV k a b s] w fun e w' => e = .returned (.string (ba (textO k a b (str s)))) ∧ Below w.heap.size w w' := by
  unfold opV
  have HP := fun (x : World) => hide (parts_any x k (by omega))
  have HHA := fun (x : World) => hide (has_kind x k 65 (.inl rfl) hk)
  have HHB := fun (x : World) => hide (has_kind x k 66 (.inr (.inl rfl)) hk)
  have HHN := fun (x : World) => hide (has_kind x k 78 (.inr (.inr rfl)) hk)
  rw [show letK k 65 = true from hA, show ((65 : Nat) : Int) = 65 from rfl] at HHA
  rw [show letK k 66 = false from hB, show ((66 : Nat) : Int) = 66 from rfl] at HHB
  rw [show letK k 78 = false from hN, show ((78 : Nat) : Int) = 78 from rfl] at HHN
  have HDA := fun (x : World) => hide (dec_any a x ha)
  have HDB := fun (x : World) => hide (dec_any b x hb)
  have hwl : (ba (wordK k)).size ≤ 13 := by rw [ba_size]; exact word_len k hk.2
  have hal : (ba (decL a)).size ≤ 20 := by rw [ba_size]; exact decL_20 ha
  have hbl : (ba (decL b)).size ≤ 20 := by rw [ba_size]; exact decL_20 hb
  have hres : ba (textO k a b (str s)) = (ba (wordK k) ++ ((⟨#[32]⟩ : ByteArray) ++ ba (decL a))) := by
    apply str_inj
    rw [str_ba]
    · simp only [str_append, sp_str, str_ba (word_byte k hk.2), str_ba (decL_byte _)]
      unfold textO partsO optL
      rw [hA, hB, hN]
      simp [joinT]
    · intro x hx
      unfold textO partsO optL at hx
      rw [hA, hB, hN] at hx
      simp only [joinT, if_true, Bool.false_eq_true, if_false, List.cons_append, List.nil_append, List.append_nil, List.mem_append, List.mem_cons] at hx
      have h1 := word_byte k hk.2 x
      have h2 := decL_byte a x
      have h3 := decL_byte b x
      have h4 := str_small s x
      have h5 : x = 32 → x < 256 := by omega
      repeat (first | (exact h1 hx) | (exact h2 hx) | (exact h3 hx) | (exact h4 hx) | (exact h5 hx) | (rcases hx with hx | hx))
  obtain ⟨wd, hwd⟩ : ∃ wd, ba (wordK k) = wd := ⟨_, rfl⟩
  obtain ⟨da, hda⟩ : ∃ da, ba (decL a) = da := ⟨_, rfl⟩
  obtain ⟨db, hdb⟩ : ∃ db, ba (decL b) = db := ⟨_, rfl⟩
  rw [hwd] at HP hwl
  rw [hda] at HDA hal
  rw [hdb] at HDB hbl
  rw [hwd, hda] at hres
  have HRES := Lib.hid hres
  have c0 : ¬ 9223372036854775807 < (⟨#[32]⟩ : ByteArray).size + da.size := by rw [show (⟨#[32]⟩ : ByteArray).size = 1 from rfl]; omega
  have d0 : ¬ 9223372036854775807 < 1 + da.size := by omega
  have e0 : ¬ 9223372036854775807 < wd.size + ((⟨#[32]⟩ : ByteArray) ++ da).size := by simp only [ByteArray.size_append, show (⟨#[32]⟩ : ByteArray).size = 1 from rfl]; omega
  have g0 : ¬ 9223372036854775807 < wd.size + (1 + da.size) := by omega
  clear hres hwd hda hdb hk ha hb hA hB hN hwl hal hbl hs
  go_enter Tryz.func16, Tryz.ntmps16
  go_wp2_with (first
    | (go_at_call 19; (with_reducible refine (unhide (HP _)).mono ?_); rintro e w1 ⟨rfl, hb1⟩; go_loud (
        have HBX := hide hb1;
        obtain ⟨z0, z1, z2, z3⟩ := box4 hb1;
        clear hb1))
    | (go_at_call 20; (with_reducible refine (unhide (HHA _)).mono ?_); rintro e w2 ⟨rfl, hw⟩; rw [hw]; clear hw w2)
    | (go_at_call 20; (with_reducible refine (unhide (HHB _)).mono ?_); rintro e w2 ⟨rfl, hw⟩; rw [hw]; clear hw w2)
    | (go_at_call 20; (with_reducible refine (unhide (HHN _)).mono ?_); rintro e w2 ⟨rfl, hw⟩; rw [hw]; clear hw w2)
    | (go_at_call 44; (with_reducible refine (unhide (HDA _)).mono ?_); rintro e w3 ⟨rfl, hw⟩; rw [← hw]; clear hw w3)
    | (go_at_call 44; (with_reducible refine (unhide (HDB _)).mono ?_); rintro e w3 ⟨rfl, hw⟩; rw [← hw]; clear hw w3))
  go_ret
  exact ⟨by rw [HRES.out]; rfl, opcells (unhide HBX)⟩
set_option maxRecDepth 100000 in
set_option maxHeartbeats 2000000 in
theorem rtext_2 (w : World) (k a b : Nat) (s : ByteArray) (hk : 1 ≤ k ∧ k ≤ 14) (ha : a < 18446744073709551616) (hb : b < 18446744073709551616) (hs : s.size ≤ 64) (hA : aK k = true) (hB : bK k = true) (hN : nK k = false) :
    Calls Tryz.prog 16 #[opV k a b s] w fun e w' => e = .returned (.string (ba (textO k a b (str s)))) ∧ Below w.heap.size w w' := by
  unfold opV
  have HP := fun (x : World) => hide (parts_any x k (by omega))
  have HHA := fun (x : World) => hide (has_kind x k 65 (.inl rfl) hk)
  have HHB := fun (x : World) => hide (has_kind x k 66 (.inr (.inl rfl)) hk)
  have HHN := fun (x : World) => hide (has_kind x k 78 (.inr (.inr rfl)) hk)
  rw [show letK k 65 = true from hA, show ((65 : Nat) : Int) = 65 from rfl] at HHA
  rw [show letK k 66 = true from hB, show ((66 : Nat) : Int) = 66 from rfl] at HHB
  rw [show letK k 78 = false from hN, show ((78 : Nat) : Int) = 78 from rfl] at HHN
  have HDA := fun (x : World) => hide (dec_any a x ha)
  have HDB := fun (x : World) => hide (dec_any b x hb)
  have hwl : (ba (wordK k)).size ≤ 13 := by rw [ba_size]; exact word_len k hk.2
  have hal : (ba (decL a)).size ≤ 20 := by rw [ba_size]; exact decL_20 ha
  have hbl : (ba (decL b)).size ≤ 20 := by rw [ba_size]; exact decL_20 hb
  have hres : ba (textO k a b (str s)) = ((ba (wordK k) ++ ((⟨#[32]⟩ : ByteArray) ++ ba (decL a))) ++ ((⟨#[32]⟩ : ByteArray) ++ ba (decL b))) := by
    apply str_inj
    rw [str_ba]
    · simp only [str_append, sp_str, str_ba (word_byte k hk.2), str_ba (decL_byte _)]
      unfold textO partsO optL
      rw [hA, hB, hN]
      simp [joinT]
    · intro x hx
      unfold textO partsO optL at hx
      rw [hA, hB, hN] at hx
      simp only [joinT, if_true, Bool.false_eq_true, if_false, List.cons_append, List.nil_append, List.append_nil, List.mem_append, List.mem_cons] at hx
      have h1 := word_byte k hk.2 x
      have h2 := decL_byte a x
      have h3 := decL_byte b x
      have h4 := str_small s x
      have h5 : x = 32 → x < 256 := by omega
      repeat (first | (exact h1 hx) | (exact h2 hx) | (exact h3 hx) | (exact h4 hx) | (exact h5 hx) | (rcases hx with hx | hx))
  obtain ⟨wd, hwd⟩ : ∃ wd, ba (wordK k) = wd := ⟨_, rfl⟩
  obtain ⟨da, hda⟩ : ∃ da, ba (decL a) = da := ⟨_, rfl⟩
  obtain ⟨db, hdb⟩ : ∃ db, ba (decL b) = db := ⟨_, rfl⟩
  rw [hwd] at HP hwl
  rw [hda] at HDA hal
  rw [hdb] at HDB hbl
  rw [hwd, hda, hdb] at hres
  have HRES := Lib.hid hres
  have c0 : ¬ 9223372036854775807 < (⟨#[32]⟩ : ByteArray).size + da.size := by rw [show (⟨#[32]⟩ : ByteArray).size = 1 from rfl]; omega
  have d0 : ¬ 9223372036854775807 < 1 + da.size := by omega
  have e0 : ¬ 9223372036854775807 < wd.size + ((⟨#[32]⟩ : ByteArray) ++ da).size := by simp only [ByteArray.size_append, show (⟨#[32]⟩ : ByteArray).size = 1 from rfl]; omega
  have g0 : ¬ 9223372036854775807 < wd.size + (1 + da.size) := by omega
  have c1 : ¬ 9223372036854775807 < (⟨#[32]⟩ : ByteArray).size + db.size := by rw [show (⟨#[32]⟩ : ByteArray).size = 1 from rfl]; omega
  have d1 : ¬ 9223372036854775807 < 1 + db.size := by omega
  have e1 : ¬ 9223372036854775807 < (wd ++ ((⟨#[32]⟩ : ByteArray) ++ da)).size + ((⟨#[32]⟩ : ByteArray) ++ db).size := by simp only [ByteArray.size_append, show (⟨#[32]⟩ : ByteArray).size = 1 from rfl]; omega
  have g1 : ¬ 9223372036854775807 < (wd.size + (1 + da.size)) + (1 + db.size) := by omega
  clear hres hwd hda hdb hk ha hb hA hB hN hwl hal hbl hs
  go_enter Tryz.func16, Tryz.ntmps16
  go_wp2_with (first
    | (go_at_call 19; (with_reducible refine (unhide (HP _)).mono ?_); rintro e w1 ⟨rfl, hb1⟩; go_loud (
        have HBX := hide hb1;
        obtain ⟨z0, z1, z2, z3⟩ := box4 hb1;
        clear hb1))
    | (go_at_call 20; (with_reducible refine (unhide (HHA _)).mono ?_); rintro e w2 ⟨rfl, hw⟩; rw [hw]; clear hw w2)
    | (go_at_call 20; (with_reducible refine (unhide (HHB _)).mono ?_); rintro e w2 ⟨rfl, hw⟩; rw [hw]; clear hw w2)
    | (go_at_call 20; (with_reducible refine (unhide (HHN _)).mono ?_); rintro e w2 ⟨rfl, hw⟩; rw [hw]; clear hw w2)
    | (go_at_call 44; (with_reducible refine (unhide (HDA _)).mono ?_); rintro e w3 ⟨rfl, hw⟩; rw [← hw]; clear hw w3)
    | (go_at_call 44; (with_reducible refine (unhide (HDB _)).mono ?_); rintro e w3 ⟨rfl, hw⟩; rw [← hw]; clear hw w3))
  go_ret
  exact ⟨by rw [HRES.out]; rfl, opcells (unhide HBX)⟩
set_option maxRecDepth 100000 in
set_option maxHeartbeats 2000000 in
theorem rtext_3 (w : World) (k a b : Nat) (s : ByteArray) (hk : 1 ≤ k ∧ k ≤ 14) (ha : a < 18446744073709551616) (hb : b < 18446744073709551616) (hs : s.size ≤ 64) (hA : aK k = true) (hB : bK k = true) (hN : nK k = true) :
    Calls Tryz.prog 16 #[opV k a b s] w fun e w' => e = .returned (.string (ba (textO k a b (str s)))) ∧ Below w.heap.size w w' := by
  unfold opV
  have HP := fun (x : World) => hide (parts_any x k (by omega))
  have HHA := fun (x : World) => hide (has_kind x k 65 (.inl rfl) hk)
  have HHB := fun (x : World) => hide (has_kind x k 66 (.inr (.inl rfl)) hk)
  have HHN := fun (x : World) => hide (has_kind x k 78 (.inr (.inr rfl)) hk)
  rw [show letK k 65 = true from hA, show ((65 : Nat) : Int) = 65 from rfl] at HHA
  rw [show letK k 66 = true from hB, show ((66 : Nat) : Int) = 66 from rfl] at HHB
  rw [show letK k 78 = true from hN, show ((78 : Nat) : Int) = 78 from rfl] at HHN
  have HDA := fun (x : World) => hide (dec_any a x ha)
  have HDB := fun (x : World) => hide (dec_any b x hb)
  have hwl : (ba (wordK k)).size ≤ 13 := by rw [ba_size]; exact word_len k hk.2
  have hal : (ba (decL a)).size ≤ 20 := by rw [ba_size]; exact decL_20 ha
  have hbl : (ba (decL b)).size ≤ 20 := by rw [ba_size]; exact decL_20 hb
  have hres : ba (textO k a b (str s)) = (((ba (wordK k) ++ ((⟨#[32]⟩ : ByteArray) ++ ba (decL a))) ++ ((⟨#[32]⟩ : ByteArray) ++ ba (decL b))) ++ ((⟨#[32]⟩ : ByteArray) ++ s)) := by
    apply str_inj
    rw [str_ba]
    · simp only [str_append, sp_str, str_ba (word_byte k hk.2), str_ba (decL_byte _)]
      unfold textO partsO optL
      rw [hA, hB, hN]
      simp [joinT]
    · intro x hx
      unfold textO partsO optL at hx
      rw [hA, hB, hN] at hx
      simp only [joinT, if_true, Bool.false_eq_true, if_false, List.cons_append, List.nil_append, List.append_nil, List.mem_append, List.mem_cons] at hx
      have h1 := word_byte k hk.2 x
      have h2 := decL_byte a x
      have h3 := decL_byte b x
      have h4 := str_small s x
      have h5 : x = 32 → x < 256 := by omega
      repeat (first | (exact h1 hx) | (exact h2 hx) | (exact h3 hx) | (exact h4 hx) | (exact h5 hx) | (rcases hx with hx | hx))
  obtain ⟨wd, hwd⟩ : ∃ wd, ba (wordK k) = wd := ⟨_, rfl⟩
  obtain ⟨da, hda⟩ : ∃ da, ba (decL a) = da := ⟨_, rfl⟩
  obtain ⟨db, hdb⟩ : ∃ db, ba (decL b) = db := ⟨_, rfl⟩
  rw [hwd] at HP hwl
  rw [hda] at HDA hal
  rw [hdb] at HDB hbl
  rw [hwd, hda, hdb] at hres
  have HRES := Lib.hid hres
  have c0 : ¬ 9223372036854775807 < (⟨#[32]⟩ : ByteArray).size + da.size := by rw [show (⟨#[32]⟩ : ByteArray).size = 1 from rfl]; omega
  have d0 : ¬ 9223372036854775807 < 1 + da.size := by omega
  have e0 : ¬ 9223372036854775807 < wd.size + ((⟨#[32]⟩ : ByteArray) ++ da).size := by simp only [ByteArray.size_append, show (⟨#[32]⟩ : ByteArray).size = 1 from rfl]; omega
  have g0 : ¬ 9223372036854775807 < wd.size + (1 + da.size) := by omega
  have c1 : ¬ 9223372036854775807 < (⟨#[32]⟩ : ByteArray).size + db.size := by rw [show (⟨#[32]⟩ : ByteArray).size = 1 from rfl]; omega
  have d1 : ¬ 9223372036854775807 < 1 + db.size := by omega
  have e1 : ¬ 9223372036854775807 < (wd ++ ((⟨#[32]⟩ : ByteArray) ++ da)).size + ((⟨#[32]⟩ : ByteArray) ++ db).size := by simp only [ByteArray.size_append, show (⟨#[32]⟩ : ByteArray).size = 1 from rfl]; omega
  have g1 : ¬ 9223372036854775807 < (wd.size + (1 + da.size)) + (1 + db.size) := by omega
  have c2 : ¬ 9223372036854775807 < (⟨#[32]⟩ : ByteArray).size + s.size := by rw [show (⟨#[32]⟩ : ByteArray).size = 1 from rfl]; omega
  have d2 : ¬ 9223372036854775807 < 1 + s.size := by omega
  have e2 : ¬ 9223372036854775807 < ((wd ++ ((⟨#[32]⟩ : ByteArray) ++ da)) ++ ((⟨#[32]⟩ : ByteArray) ++ db)).size + ((⟨#[32]⟩ : ByteArray) ++ s).size := by simp only [ByteArray.size_append, show (⟨#[32]⟩ : ByteArray).size = 1 from rfl]; omega
  have g2 : ¬ 9223372036854775807 < ((wd.size + (1 + da.size)) + (1 + db.size)) + (1 + s.size) := by omega
  clear hres hwd hda hdb hk ha hb hA hB hN hwl hal hbl hs
  go_enter Tryz.func16, Tryz.ntmps16
  go_wp2_with (first
    | (go_at_call 19; (with_reducible refine (unhide (HP _)).mono ?_); rintro e w1 ⟨rfl, hb1⟩; go_loud (
        have HBX := hide hb1;
        obtain ⟨z0, z1, z2, z3⟩ := box4 hb1;
        clear hb1))
    | (go_at_call 20; (with_reducible refine (unhide (HHA _)).mono ?_); rintro e w2 ⟨rfl, hw⟩; rw [hw]; clear hw w2)
    | (go_at_call 20; (with_reducible refine (unhide (HHB _)).mono ?_); rintro e w2 ⟨rfl, hw⟩; rw [hw]; clear hw w2)
    | (go_at_call 20; (with_reducible refine (unhide (HHN _)).mono ?_); rintro e w2 ⟨rfl, hw⟩; rw [hw]; clear hw w2)
    | (go_at_call 44; (with_reducible refine (unhide (HDA _)).mono ?_); rintro e w3 ⟨rfl, hw⟩; rw [← hw]; clear hw w3)
    | (go_at_call 44; (with_reducible refine (unhide (HDB _)).mono ?_); rintro e w3 ⟨rfl, hw⟩; rw [← hw]; clear hw w3))
  go_ret
  exact ⟨by rw [HRES.out]; rfl, opcells (unhide HBX)⟩
set_option maxRecDepth 100000 in
set_option maxHeartbeats 2000000 in
theorem rtext_4 (w : World) (k a b : Nat) (s : ByteArray) (hk : 1 ≤ k ∧ k ≤ 14) (ha : a < 18446744073709551616) (hb : b < 18446744073709551616) (hs : s.size ≤ 64) (hA : aK k = false) (hB : bK k = false) (hN : nK k = true) :
    Calls Tryz.prog 16 #[opV k a b s] w fun e w' => e = .returned (.string (ba (textO k a b (str s)))) ∧ Below w.heap.size w w' := by
  unfold opV
  have HP := fun (x : World) => hide (parts_any x k (by omega))
  have HHA := fun (x : World) => hide (has_kind x k 65 (.inl rfl) hk)
  have HHB := fun (x : World) => hide (has_kind x k 66 (.inr (.inl rfl)) hk)
  have HHN := fun (x : World) => hide (has_kind x k 78 (.inr (.inr rfl)) hk)
  rw [show letK k 65 = false from hA, show ((65 : Nat) : Int) = 65 from rfl] at HHA
  rw [show letK k 66 = false from hB, show ((66 : Nat) : Int) = 66 from rfl] at HHB
  rw [show letK k 78 = true from hN, show ((78 : Nat) : Int) = 78 from rfl] at HHN
  have HDA := fun (x : World) => hide (dec_any a x ha)
  have HDB := fun (x : World) => hide (dec_any b x hb)
  have hwl : (ba (wordK k)).size ≤ 13 := by rw [ba_size]; exact word_len k hk.2
  have hal : (ba (decL a)).size ≤ 20 := by rw [ba_size]; exact decL_20 ha
  have hbl : (ba (decL b)).size ≤ 20 := by rw [ba_size]; exact decL_20 hb
  have hres : ba (textO k a b (str s)) = (ba (wordK k) ++ ((⟨#[32]⟩ : ByteArray) ++ s)) := by
    apply str_inj
    rw [str_ba]
    · simp only [str_append, sp_str, str_ba (word_byte k hk.2), str_ba (decL_byte _)]
      unfold textO partsO optL
      rw [hA, hB, hN]
      simp [joinT]
    · intro x hx
      unfold textO partsO optL at hx
      rw [hA, hB, hN] at hx
      simp only [joinT, if_true, Bool.false_eq_true, if_false, List.cons_append, List.nil_append, List.append_nil, List.mem_append, List.mem_cons] at hx
      have h1 := word_byte k hk.2 x
      have h2 := decL_byte a x
      have h3 := decL_byte b x
      have h4 := str_small s x
      have h5 : x = 32 → x < 256 := by omega
      repeat (first | (exact h1 hx) | (exact h2 hx) | (exact h3 hx) | (exact h4 hx) | (exact h5 hx) | (rcases hx with hx | hx))
  obtain ⟨wd, hwd⟩ : ∃ wd, ba (wordK k) = wd := ⟨_, rfl⟩
  obtain ⟨da, hda⟩ : ∃ da, ba (decL a) = da := ⟨_, rfl⟩
  obtain ⟨db, hdb⟩ : ∃ db, ba (decL b) = db := ⟨_, rfl⟩
  rw [hwd] at HP hwl
  rw [hda] at HDA hal
  rw [hdb] at HDB hbl
  rw [hwd] at hres
  have HRES := Lib.hid hres
  have c0 : ¬ 9223372036854775807 < (⟨#[32]⟩ : ByteArray).size + s.size := by rw [show (⟨#[32]⟩ : ByteArray).size = 1 from rfl]; omega
  have d0 : ¬ 9223372036854775807 < 1 + s.size := by omega
  have e0 : ¬ 9223372036854775807 < wd.size + ((⟨#[32]⟩ : ByteArray) ++ s).size := by simp only [ByteArray.size_append, show (⟨#[32]⟩ : ByteArray).size = 1 from rfl]; omega
  have g0 : ¬ 9223372036854775807 < wd.size + (1 + s.size) := by omega
  clear hres hwd hda hdb hk ha hb hA hB hN hwl hal hbl hs
  go_enter Tryz.func16, Tryz.ntmps16
  go_wp2_with (first
    | (go_at_call 19; (with_reducible refine (unhide (HP _)).mono ?_); rintro e w1 ⟨rfl, hb1⟩; go_loud (
        have HBX := hide hb1;
        obtain ⟨z0, z1, z2, z3⟩ := box4 hb1;
        clear hb1))
    | (go_at_call 20; (with_reducible refine (unhide (HHA _)).mono ?_); rintro e w2 ⟨rfl, hw⟩; rw [hw]; clear hw w2)
    | (go_at_call 20; (with_reducible refine (unhide (HHB _)).mono ?_); rintro e w2 ⟨rfl, hw⟩; rw [hw]; clear hw w2)
    | (go_at_call 20; (with_reducible refine (unhide (HHN _)).mono ?_); rintro e w2 ⟨rfl, hw⟩; rw [hw]; clear hw w2)
    | (go_at_call 44; (with_reducible refine (unhide (HDA _)).mono ?_); rintro e w3 ⟨rfl, hw⟩; rw [← hw]; clear hw w3)
    | (go_at_call 44; (with_reducible refine (unhide (HDB _)).mono ?_); rintro e w3 ⟨rfl, hw⟩; rw [← hw]; clear hw w3))
  go_ret
  exact ⟨by rw [HRES.out]; rfl, opcells (unhide HBX)⟩
theorem rtext_good (w : World) (k a b : Nat) (s : ByteArray) (ha : a < 18446744073709551616) (hb : b < 18446744073709551616) (hr : rightO k a b (str s) = true) :
    Calls Tryz.prog 16 #[opV k a b s] w fun e w' => e = .returned (.string (ba (textO k a b (str s)))) ∧ Below w.heap.size w w' := by
  have hk := rightO_kind hr
  have hs := rightO_len hr
  rw [str_length] at hs
  have hcase := kinds_case k hk.2
  rcases hA : aK k with _ | _ <;> rcases hB : bK k with _ | _ <;> rcases hN : nK k with _ | _ <;> rw [hA, hB, hN] at hcase
  · exact absurd hcase (by decide)
  · exact rtext_4 w k a b s hk ha hb hs hA hB hN
  · exact absurd hcase (by decide)
  · exact absurd hcase (by decide)
  · exact rtext_1 w k a b s hk ha hb hs hA hB hN
  · exact rtext_0 w k a b s hk ha hb hs hA hB hN
  · exact rtext_2 w k a b s hk ha hb hs hA hB hN
  · exact rtext_3 w k a b s hk ha hb hs hA hB hN
end Go.Proofs.YtfnobibjphnmdaaGreatDoor
