/- Contracts: the tokens of a text. -/
import Derived.Test.YtiimkodgfhkbpaaDoorKToks
namespace Go.Proofs.YtiimkodgfhkbpaaDoor
open Go.RowKit
set_option linter.unusedSimpArgs false
set_option linter.unusedVariables false
set_option maxRecDepth 100000 in
set_option maxHeartbeats 1000000 in
theorem all_long (w : World) (s : ByteArray) (hs : 200000 < s.size) :
    Calls Tryd.prog 10 #[.string s] w fun e w' => e = .returned (.tuple #[.slice none 0 0, .int .i64 4]) ∧ w = w' := by
  have hx : decide (200000 < (s.size : Int)) = true := decide_eq_true (by omega)
  go_enter Tryd.func10, Tryd.ntmps10
  go_wp2
  go_ret2
  exact ⟨rfl, rfl⟩
/-- What All answers of a text that is not too long. -/
def AllR (w : World) (ty : TypeId) (r : Option (List Tok)) (e : Ending) (w' : World) : Prop :=
  (∀ ts, r = some ts → ∃ v, e = .returned (.tuple #[v, .int .i64 0]) ∧ TRow w' w.heap.size ty v ts) ∧ (r = none → e = .returned (.tuple #[.slice none 0 0, .int .i64 20])) ∧ Below w.heap.size w w'
set_option maxRecDepth 100000 in
set_option maxHeartbeats 2000000 in
theorem all_any (w : World) (s : ByteArray) (hs : s.size ≤ 200000) (hv : Vr w) :
    Calls Tryd.prog 10 #[.string s] w (AllR w 32 (scan (str s) 0)) := by
  obtain ⟨i0, hi0, hz0, hz1, hz2⟩ := info_tok infoTok
  have HI := Lib.hid hi0
  have H0 := Lib.hid hz0
  have H1 := Lib.hid hz1
  have H2 := Lib.hid hz2
  have HV := hide hv
  have HG := fun (x : World) => hide (gap_any x s (by omega))
  have HGR := fun (x : World) (a : Nat) (ha : a ≤ s.size) => hide (gap_any x (s.extract a s.size) (by rw [← str_length, str_rest, List.length_drop, str_length]; omega))
  have HF := fun (x : World) (a : Nat) (ha : a ≤ s.size) (hx : Vr x) => hide (first_any x (s.extract a s.size) (by rw [← str_length, str_rest, List.length_drop, str_length]; omega) hx)
  have HC := fun (x : World) (t : ByteArray) (ht : t.size ≤ 281474976710656) => hide (clone_any x t ht)
  have hx : decide (200000 < (s.size : Int)) = false := decide_eq_false (by omega)
  clear hi0 hz0 hz1 hz2 hv
  go_enter Tryd.func10, Tryd.ntmps10
  go_wp2_with (go_at_call 25; (with_reducible refine (unhide (HG _)).mono ?_); rintro e w1 ⟨rfl, rfl⟩)
  clear hx
  go_loopw [4, 5] (fun v i wr => AllI w s v i wr) (fun _ i _ => s.size - (intOf i).toNat)
  case atStart => exact ⟨0, [], by omega, by rw [List.drop_zero, Nat.zero_add], TRow.nil _ _ _, by simp, Below.refl _ _, by rw [List.drop_zero]; simp⟩
  case round =>
    obtain ⟨p, acc, hp, rfl, hrow, hacc, hb, hsc⟩ := hrel
    obtain ⟨a, ha⟩ : ∃ a, a = p + gapL ((str s).drop p) := ⟨_, rfl⟩
    have HA := hide ha
    have HB := hide hb
    have HS := hide hsc
    rw [← ha]
    clear hsc ha
    by_cases hlt : a < s.size
    · have HF1 := fun (x : World) (hx : Vr x) => HF x a (by omega) hx
      rw [str_rest] at HF1
      have hle := firstL_le ((str s).drop a)
      rw [List.length_drop, str_length] at hle
      obtain ⟨k, hk⟩ : ∃ k, k = (firstL ((str s).drop a)).1 := ⟨_, rfl⟩
      obtain ⟨n, hn⟩ : ∃ n, n = (firstL ((str s).drop a)).2 := ⟨_, rfl⟩
      rw [← hk, ← hn] at HF1
      rw [← hn] at hle
      have HK := hide hk
      have HN := hide hn
      clear hk hn
      have HR := hide hrow
      by_cases hk0 : k = 0
      · subst hk0
        clear hrow hb
        go_wp2_with (go_at_call 26; (with_reducible refine (unhide (HF1 _ ((unhide HV).below (unhide HB)))).mono ?_); rintro e w2 ⟨rfl, hb2⟩; have HB2 := hide (below_on (unhide HB) hb2); clear hb2)
        go_ret2
        have hbad : scan (str s) 0 = none := by
          have hk := unhide HK
          have ha := unhide HA
          rw [unhide HS, scan_bad]
          · rfl
          · rw [List.length_drop, str_length]
            omega
          · rw [List.drop_drop, ← ha]
            exact hk.symm
        refine ⟨fun ts h => ?_, fun _ => rfl, unhide HB2⟩
        rw [hbad] at h
        cases h
      · have hk1 : ((k : Int) == 0) = false := by rw [beq_eq_false_iff_ne]; omega
        have q1 : 0 ≤ (a : Int) + (n : Int) := by omega
        have q2 : ((a : Int) + (n : Int)).toNat = a + n := by omega
        have q3 : (a : Int) + (n : Int) ≤ (s.size : Int) := by omega
        have q4 : (a : Int) ≤ (a : Int) + (n : Int) := by omega
        clear hrow hb
        go_wp2_with (first
          | (go_at_call 26; (with_reducible refine (unhide (HF1 _ ((unhide HV).below (unhide HB)))).mono ?_); rintro e w2 ⟨rfl, hb2⟩; go_loud (
              have HB2 := hide (below_on (unhide HB) hb2);
              have HR2 := hide ((unhide HR).below hb2);
              have HC1 := HC w2 (s.extract a (a + n)) (by rw [← str_length, str_extract, List.length_take, List.length_drop, str_length]; omega);
              clear hb2))
          | (go_at_call 27; (with_reducible refine (unhide HC1).mono ?_); rintro e w3 ⟨rfl, hb3⟩; go_loud (
              have HB3 := hide (below_on (unhide HB2) hb3);
              have HR3 := hide ((unhide HR2).below hb3);
              clear hb3))
          | (at_builtin; refine wpList_append_own _ rfl _ _ 24 rfl w.heap.size 32 i0 (.agg #[.int .u8 0, .string ⟨#[]⟩, .int .i64 0]) 3 32 Tryd.underlying24 HI.out H0.out H1.out H2.out rfl (by decide) _ _ _ rfl (World.ownsRow.alloc (unhide HR3) _) ⟨_, 0, none⟩ 1 1 [.int .u8 (k : Int), .string (s.extract a (a + n)), .int .i64 (a : Int)] rfl rfl ?c1 ?c2 ?c3 ?c4 ?c5 ?_))
        case c1 => exact cell_three_new _ _ _ _
        case c2 => simp [Value.oneCell']
        case c3 => unfold maxLen; omega
        case c4 => omega
        case c5 => exact (((unhide HB3).alloc (unhide HB3).size _).size)
        intro v' w4 hown1 hg1 _
        have hbel := ((unhide HB3).alloc (unhide HB3).size _).grown hg1 (by have := (unhide HB3).size; simp; omega) (fun g hg => (World.ownsRow.lt (unhide HR3) g hg).1)
        have HO := hide hown1
        have HB4 := hide hbel
        clear hown1 hbel hg1
        have HG2 := fun (x : World) => HGR x (a + n) (by omega)
        rw [str_rest] at HG2
        have hgl := gapL_le ((str s).drop (a + n))
        rw [List.length_drop, str_length] at hgl
        have hn1 : 1 ≤ n := by rw [unhide HN]; exact firstL_pos _ (by rw [← unhide HK]; exact hk0)
        obtain ⟨m, hm⟩ : ∃ m, m = gapL ((str s).drop (a + n)) := ⟨_, rfl⟩
        rw [← hm] at HG2 hgl
        have HM := hide hm
        have hal : p ≤ a := by rw [unhide HA]; omega
        clear hm
        go_wp2_with (go_at_call 25; (with_reducible refine (unhide (HG2 _)).mono ?_); rintro e w5 ⟨rfl, rfl⟩)
        go_roundw
        case rel =>
          refine ⟨a + n, acc ++ [⟨k, ((str s).drop a).take n, a⟩], by omega, ?_, ?_, ?_, unhide HB4, ?_⟩
          · rw [← unhide HM]
            congr 1
          · have h := unhide HO
            unfold TRow
            rw [toksC_append, List.length_append, show toksC [⟨k, ((str s).drop a).take n, a⟩] = [.int .u8 (k : Int), .string (s.extract a (a + n)), .int .i64 (a : Int)] from by simp [toksC, tokC, ba_piece]]
            exact h
          · rw [List.length_append, List.length_singleton]
            omega
          · have h := all_next (l := str s) (p := p) (acc := acc) (by rw [str_length]; exact hp) (unhide HS) (by rw [← unhide HA, str_length]; exact hlt) (by rw [← unhide HA, ← unhide HK]; exact hk0)
            rw [← unhide HA, ← unhide HK, ← unhide HN] at h
            exact h
        case measure => simp [intOf]; omega
    · have hend : scan ((str s).drop p) p = some [] := scan_end (by
        have := unhide HA
        have h2 := gapL_le ((str s).drop p)
        rw [List.length_drop, str_length] at h2 ⊢
        omega)
      have hs2 := unhide HS
      rw [hend] at hs2
      have HS2 := hide hs2
      have HR := hide hrow
      clear hs2 hend hrow hb
      go_wp2
      go_ret2
      refine ⟨fun ts h => ⟨_, rfl, ?_⟩, fun h => ?_, unhide HB⟩
      · rw [unhide HS2] at h
        simp at h
        rw [← h]
        exact unhide HR
      · rw [unhide HS2] at h
        cases h
end Go.Proofs.YtiimkodgfhkbpaaDoor
