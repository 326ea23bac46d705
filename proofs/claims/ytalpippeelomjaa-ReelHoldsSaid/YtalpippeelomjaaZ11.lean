/- Word, Blank: joined by program (tools/merge.py). -/
import Derived.Test.YtalpippeelomjaaZ6
import Derived.Laws.CopyOwn
import Derived.Deep.QuietTactic
import Derived.BigQuiet
import Derived.Lib.SliceRun
namespace Go.Proofs.Ytalpippeelomjaa
open Go.RowKit
set_option linter.unusedSimpArgs false
set_option linter.unusedVariables false

/-- A number's four bytes, the highest first. -/
def be4 (v : Nat) : List Nat := [v / 16777216 % 256, v / 65536 % 256, v / 256 % 256, v % 256]
/-- Bytes as a number, the highest first. -/
def be (l : List Nat) : Nat := l.foldl (fun a b => 256 * a + b) 0
theorem be_snoc (l : List Nat) (b : Nat) : be (l ++ [b]) = 256 * be l + b := by simp [be]
theorem be_lt {l : List Nat} (h : ∀ b ∈ l, b < 256) : be l < 256 ^ l.length := by
  suffices hh : ∀ n (l : List Nat), l.length = n → (∀ b ∈ l, b < 256) → be l < 256 ^ n from hh _ l rfl h
  intro n
  induction n with
  | zero => intro l hl _; rw [List.eq_nil_of_length_eq_zero hl]; decide
  | succ n ih =>
    intro l hl hb
    obtain ⟨m, x, rfl⟩ : ∃ m x, l = m ++ [x] := ⟨l.dropLast, l.getLast (by intro e; rw [e] at hl; simp at hl), (List.dropLast_concat_getLast _).symm⟩
    rw [be_snoc]
    have h1 := ih m (by simp at hl; omega) (fun b hb' => hb b (by simp [hb']))
    have h2 := hb x (by simp)
    rw [Nat.pow_succ]
    omega
theorem be_be4 (v : Nat) (h : v < 4294967296) : be (be4 v) = v := by
  unfold be be4
  simp
  omega
theorem be4_small (v : Nat) : ∀ b ∈ be4 v, b < 256 := by
  intro b hb
  simp [be4] at hb
  rcases hb with h | h | h | h <;> rw [h] <;> exact Nat.mod_lt _ (by decide)
theorem be4_length (v : Nat) : (be4 v).length = 4 := rfl

theorem buf_set {w : World} {g i b : Nat} {L : List Nat} (h : w.heap[g]? = some (.cells (byt L).toArray 5 (0, 0))) :
    (w.setCell ⟨g, i, none⟩ (.int .u8 (b : Int))).heap[g]? = some (.cells (byt (L.set i b)).toArray 5 (0, 0)) := by
  rw [heap_setCell_same w g i _ _ _ h]
  have e : (byt L).toArray.setIfInBounds i (.int .u8 (b : Int)) = (byt (L.set i b)).toArray := by
    rw [List.setIfInBounds_toArray]
    congr 1
    unfold byt
    rw [List.map_set]
  rw [e]
theorem buf_cell {w : World} {g i b : Nat} {L : List Nat} (h : w.heap[g]? = some (.cells (byt L).toArray 5 (0, 0))) (hb : L[i]? = some b) : w.cell? ⟨g, i, none⟩ = some (.int .u8 (b : Int)) := by
  rw [cell_of_row w g i _ _ _ h]
  simp [byt_at, hb]
theorem buf_fz {w : World} {g i : Nat} {L : List Nat} (h : w.heap[g]? = some (.cells (byt L).toArray 5 (0, 0))) : w.frozen? ⟨g, i, none⟩ = false := frozen_of_row w g i _ _ h
theorem splice_next {L M : List Nat} {off k b : Nat} (hk : M[k]? = some b) (hl : off + M.length ≤ L.length) : (splice L off (M.take k)).set (off + k) b = splice L off (M.take (k + 1)) := by
  have hkl := (List.getElem?_eq_some_iff.1 hk).1
  unfold splice
  have h1 : (L.take off).length = off := by rw [List.length_take]; omega
  have h2 : (M.take k).length = k := by rw [List.length_take]; omega
  have h3 : (M.take (k + 1)).length = k + 1 := by rw [List.length_take]; omega
  rw [h2, h3, List.set_append_right _ _ (by omega), h1, show off + k - off = k by omega, List.set_append_right _ _ (by omega), h2, Nat.sub_self, List.take_add_one, hk]
  obtain ⟨x, hx⟩ : ∃ x, L[off + k]? = some x := ⟨_, List.getElem?_eq_getElem (by omega)⟩
  have h4 : L.drop (off + k) = x :: L.drop (off + (k + 1)) := by
    obtain ⟨h5, h6⟩ := List.getElem?_eq_some_iff.1 hx
    rw [List.drop_eq_getElem_cons h5, h6]
    rfl
  rw [h4, List.set_cons_zero]
  simp
def PutR (w : World) (g off v : Nat) (L : List Nat) (t : Value) (x : World) : Prop :=
  ∃ k : Nat, k ≤ 4 ∧ t = .int .i64 (k : Int) ∧ x.heap[g]? = some (.cells (byt (splice L off ((be4 v).take k))).toArray 5 (0, 0)) ∧ Below g w x
theorem put_next {x : World} {g off k b o2 : Nat} {L M : List Nat} {t : Int} (hX : x.heap[g]? = some (.cells (byt (splice L off (M.take k))).toArray 5 (0, 0))) (hM : M[k]? = some b) (hl : off + M.length ≤ L.length) (ho : o2 = off + k) (ht : t = (b : Int)) :
    (x.setCell ⟨g, o2, none⟩ (.int .u8 t)).heap[g]? = some (.cells (byt (splice L off (M.take (k + 1)))).toArray 5 (0, 0)) := by
  rw [ho, ht, ← splice_next hM hl]
  exact buf_set hX
theorem splice_nil (L : List Nat) (off : Nat) : splice L off [] = L := by simp [splice]

set_option maxRecDepth 100000 in
set_option maxHeartbeats 2000000 in
theorem putWord_any (w : World) (g off n c v : Nat) (L : List Nat) (hv : v < 4294967296) (hg : w.heap[g]? = some (.cells (byt L).toArray 5 (0, 0))) (hoff : off + 4 ≤ L.length) (hn : 4 ≤ n) (hL : L.length ≤ 1048576) :
    Calls Try.prog 96 #[.slice (some ⟨g, off, none⟩) n c, .int .u32 (v : Int)] w fun e w' => (∃ u, e = .returned u) ∧ w'.heap[g]? = some (.cells (byt (splice L off (be4 v))).toArray 5 (0, 0)) ∧ Below g w w' := by
  have HG := Lib.hid hg
  clear hg
  go_enter Try.func96, Try.ntmps96
  go_wp2
  go_loopw [5] (fun t x => PutR w g off v L t x) (fun t _ => 4 - (intOf t).toNat)
  case atStart => exact ⟨0, by omega, rfl, by rw [List.take_zero, splice_nil]; exact HG.out, Below.refl _ _⟩
  case round =>
    obtain ⟨k, hk, rfl, hX, hB⟩ := hrel
    have hlen : (splice L off ((be4 v).take k)).length = L.length := length_splice _ _ _ (by rw [List.length_take, be4_length]; omega)
    have HX := Lib.hid hX
    have HB := Lib.hid hB
    rcases Nat.lt_or_ge k 4 with h4 | h4
    · obtain ⟨b, hb⟩ : ∃ b, (splice L off ((be4 v).take k))[off + k]? = some b := ⟨_, List.getElem?_eq_getElem (by rw [hlen]; omega)⟩
      have hc := buf_cell hX hb
      have hf := buf_fz (i := off + k) hX
      clear hX hB hb hlen
      have hk4 : k = 0 ∨ k = 1 ∨ k = 2 ∨ k = 3 := by omega
      rcases hk4 with rfl | rfl | rfl | rfl
      all_goals
        try simp only [Nat.add_zero] at hc hf
        go_wp2
        go_roundw
        case rel =>
          first
            | exact ⟨1, by omega, by go_num, put_next (k := 0) (b := v / 16777216 % 256) HX.out rfl hoff rfl (by omega), HB.out.setCell (Nat.le_refl _) _⟩
            | exact ⟨2, by omega, by go_num, put_next (k := 1) (b := v / 65536 % 256) HX.out rfl hoff rfl (by omega), HB.out.setCell (Nat.le_refl _) _⟩
            | exact ⟨3, by omega, by go_num, put_next (k := 2) (b := v / 256 % 256) HX.out rfl hoff rfl (by omega), HB.out.setCell (Nat.le_refl _) _⟩
            | exact ⟨4, by omega, by go_num, put_next (k := 3) (b := v % 256) HX.out rfl hoff rfl (by omega), HB.out.setCell (Nat.le_refl _) _⟩
        case measure => simp [intOf]
    · have hk4 : ¬ (k : Int) < 4 := by omega
      have hk5 : k = 4 := by omega
      have Hk5 := Lib.hid hk5
      clear hX hB hlen hk5 hk h4
      go_wp2
      have hx := HX.out
      rw [Hk5.out] at hx
      exact bodyPost_end (results_none rfl _ _ _) rfl ⟨⟨_, rfl⟩, hx, HB.out⟩

def WordR (w : World) (l : List Nat) (s t : Value) (x : World) : Prop :=
  ∃ k : Nat, k ≤ 4 ∧ t = .int .i64 (k : Int) ∧ s = .int .u32 ((be (l.take k) : Nat) : Int) ∧ x = w
theorem word_step (n b : Nat) (hn : n < 16777216) (hb : b < 256) : bits .or .u32 (n * 256) b = ((256 * n + b : Nat) : Int) := by
  have h := Nat.two_pow_add_eq_or_of_lt (i := 8) (b := b) (by omega) n
  have h2 := u32_or_nat (n * 256) b (by omega) (by omega)
  have e : ((n * 256 : Nat) : Int) = (n : Int) * 256 := by omega
  rw [← e, h2]
  have e2 : n * 256 ||| b = 256 * n + b := by
    rw [Nat.mul_comm n 256]
    exact h.symm
  rw [e2]
set_option maxRecDepth 100000 in
set_option maxHeartbeats 2000000 in
theorem word_any (w : World) (v : Value) (l : List Nat) (hp : Bytes w w.heap.size v l) (h4 : 4 ≤ l.length) :
    Calls Try.prog 92 #[v] w fun e w' => e = .returned (.int .u32 ((be (l.take 4) : Nat) : Int)) ∧ w = w' := by
  obtain ⟨⟨A, c, rfl, hlies, _⟩, hsm, hlong⟩ := hp
  unfold maxLen at hlong
  have HL := Lib.hid hlies
  have HS := Lib.hid hsm
  clear hlies hsm
  obtain ⟨n, hn⟩ : ∃ n, n = l.length := ⟨_, rfl⟩
  rw [← hn] at hlong h4 ⊢
  have HN := Lib.hid hn
  clear hn
  go_enter Try.func92, Try.ntmps92
  go_wp2
  go_loopw [3, 5] (fun s t x => WordR w l s t x) (fun _ t _ => 4 - (intOf t).toNat)
  case atStart => exact ⟨0, by omega, rfl, rfl, rfl⟩
  case round =>
    obtain ⟨k, hk, rfl, rfl, rfl⟩ := hrel
    by_cases hlt : k < 4
    · obtain ⟨b, hb⟩ : ∃ b, l[k]? = some b := ⟨_, List.getElem?_eq_getElem (by rw [← HN.out]; omega)⟩
      obtain ⟨ad, hA, hbb, hc0⟩ := HL.out k (.int .u8 (b : Int)) (by rw [byt_at, hb]; rfl)
      subst hA
      have hkn : (k : Int) < (n : Int) := by omega
      have hb256 : b < 256 := HS.out b (List.mem_of_getElem? hb)
      obtain ⟨q, hq⟩ : ∃ q, q = be (l.take k) := ⟨_, rfl⟩
      have hq2 : q < 16777216 := by
        have h1 := be_lt (l := l.take k) (fun b hb => HS.out b (List.mem_of_mem_take hb))
        have h2 : (l.take k).length ≤ 3 := by rw [List.length_take]; omega
        have h3 := Nat.pow_le_pow_right (n := 256) (by omega) h2
        omega
      have hnext : 256 * q + b = be (l.take (k + 1)) := by rw [List.take_add_one, hb, hq]; exact (be_snoc _ _).symm
      have HNX := Lib.hid hnext
      have hstep := word_step q b hq2 hb256
      rw [← hq]
      clear hq hnext hb
      go_wp2
      go_roundw
      case rel => exact ⟨k + 1, by omega, by go_num, by rw [← HNX.out]; congr 1, rfl⟩
      case measure => simp [intOf]; omega
    · obtain rfl : k = 4 := by omega
      have hk4 : ¬ ((4 : Nat) : Int) < 4 := by omega
      go_wp2
      go_ret
      exact ⟨rfl, rfl⟩
end Go.Proofs.Ytalpippeelomjaa
namespace Go.Proofs.Ytalpippeelomjaa
open Go.RowKit
set_option linter.unusedSimpArgs false
set_option linter.unusedVariables false

def PBlankR (w : World) (n : Nat) (l : List Nat) (t : Value) (x : World) : Prop :=
  ∃ k : Nat, k ≤ n ∧ t = .int .i64 (k : Int) ∧ (∀ b ∈ l.take k, b = 0) ∧ x = w
set_option maxRecDepth 100000 in
set_option maxHeartbeats 2000000 in
theorem pblank_any (w : World) (v : Value) (l : List Nat) (hp : Bytes w w.heap.size v l) :
    Calls Try.prog 89 #[v] w fun e w' => e = .returned (.bool (decide (∀ b ∈ l, b = 0))) ∧ w = w' := by
  obtain ⟨⟨A, c, rfl, hlies, _⟩, hsm, hlong⟩ := hp
  unfold maxLen at hlong
  have HL := Lib.hid hlies
  clear hlies hsm
  obtain ⟨n, hn⟩ : ∃ n, n = l.length := ⟨_, rfl⟩
  rw [← hn] at hlong ⊢
  have HN := Lib.hid hn
  clear hn
  go_enter Try.func89, Try.ntmps89
  go_wp2
  go_loopw [7] (fun t x => PBlankR w n l t x) (fun t _ => n - (intOf t).toNat)
  case atStart => exact ⟨0, by omega, rfl, by simp, rfl⟩
  case round =>
    obtain ⟨k, hk, rfl, hz, rfl⟩ := hrel
    have HZ := Lib.hid hz
    clear hz
    by_cases hlt : k < n
    · obtain ⟨b, hb⟩ : ∃ b, l[k]? = some b := ⟨_, List.getElem?_eq_getElem (by rw [← HN.out]; omega)⟩
      obtain ⟨ad, hA, hbb, hc0⟩ := HL.out k (.int .u8 (b : Int)) (by rw [byt_at, hb]; rfl)
      subst hA
      have Hb := Lib.hid hb
      clear hb
      by_cases hb0 : b = 0
      · subst hb0
        go_wp2
        go_roundw
        case rel =>
          refine ⟨k + 1, by omega, by go_num, fun d hd => ?_, rfl⟩
          rw [List.take_add_one, Hb.out] at hd
          rcases List.mem_append.1 hd with h | h
          · exact HZ.out d h
          · simpa using h
        case measure => simp [intOf]; omega
      · have hb1 : ((b : Int) != 0) = true := by simp; omega
        have hb2 : ¬ (b : Int) = 0 := by omega
        have Hb0 := Lib.hid hb0
        clear hb0
        go_wp2
        go_ret
        refine ⟨congrArg Ending.returned (congrArg Value.bool (Eq.symm (decide_eq_false fun h => ?_))), rfl⟩
        exact Hb0.out (h b (List.mem_of_getElem? Hb.out))
    · go_wp2
      go_ret
      refine ⟨congrArg Ending.returned (congrArg Value.bool (Eq.symm (decide_eq_true ?_))), rfl⟩
      have h := HZ.out
      rw [List.take_of_length_le (by rw [← HN.out]; omega)] at h
      exact h

set_option maxRecDepth 100000 in
set_option maxHeartbeats 1000000 in
theorem equal_any (w : World) (v u : Value) (l m : List Nat) (hp : Bytes w w.heap.size v l) (hq : Bytes w w.heap.size u m) :
    Calls Try.prog 95 #[v, u] w (Quietly w (.bool (decide (l = m)))) := by
  obtain ⟨⟨A, c, rfl, hlies, _⟩, hsm, hlong⟩ := hp
  obtain ⟨⟨A2, c2, rfl, hlies2, _⟩, hsm2, hlong2⟩ := hq
  unfold maxLen at hlong hlong2
  have HL := Lib.hid hlies
  have HS := Lib.hid hsm
  have HL2 := Lib.hid hlies2
  have HS2 := Lib.hid hsm2
  clear hlies hsm hlies2 hsm2
  obtain ⟨n, hn⟩ : ∃ n, n = l.length := ⟨_, rfl⟩
  obtain ⟨n2, hn2⟩ : ∃ n2, n2 = m.length := ⟨_, rfl⟩
  rw [← hn] at hlong ⊢
  rw [← hn2] at hlong2 ⊢
  by_cases hne : n = n2
  · subst hne
    have HN := Lib.hid hn
    have HN2 := Lib.hid hn2
    clear hn hn2
    go_enter Try.func95, Try.ntmps95
    go_wp2
    go_loopw [13] (fun i wr => SameR w n l m i wr) (fun i _ => n - (intOf i).toNat)
    case atStart => exact ⟨0, 0, by omega, rfl, rfl, rfl⟩
    case round =>
      obtain ⟨k, q, hk, rfl, heq, rfl⟩ := hrel
      have HE := Lib.hid heq
      clear heq
      by_cases hlt : k < n
      · obtain ⟨b, hb1⟩ : ∃ b, l[k]? = some b := ⟨_, List.getElem?_eq_getElem (by rw [← HN.out]; exact hlt)⟩
        obtain ⟨d, hd1⟩ : ∃ d, m[k]? = some d := ⟨_, List.getElem?_eq_getElem (by rw [← HN2.out]; exact hlt)⟩
        obtain ⟨ad, hA, hbb, hc0⟩ := HL.out k (.int .u8 (b : Int)) (by rw [byt_at, hb1]; rfl)
        obtain ⟨ad2, hA2, hbb2, hc2⟩ := HL2.out k (.int .u8 (d : Int)) (by rw [byt_at, hd1]; rfl)
        subst hA
        subst hA2
        have h1 : (w.drewN q).cell? (ad.add k) = some (.int .u8 (b : Int)) := hc0
        have h2 : (w.drewN q).cell? (ad2.add k) = some (.int .u8 (d : Int)) := hc2
        have Hb1 := Lib.hid hb1
        have Hd1 := Lib.hid hd1
        clear hb1 hd1
        by_cases hbd : b = d
        · subst hbd
          go_wp2
          go_quiet (fail)
          go_wp2
          go_roundw
          case rel => exact ⟨k + 1, _, by omega, by go_num, by rw [List.take_add_one, List.take_add_one, HE.out, Hb1.out, Hd1.out], rfl⟩
          case measure => simp [intOf]; omega
        · have hne : ((b : Int) != (d : Int)) = true := by simp; omega
          go_wp2
          go_quiet (fail)
          go_wp2
          go_ret
          refine ⟨congrArg Ending.returned (congrArg Value.bool (Eq.symm (decide_eq_false ?_))), _, World.drewN_drewN _ _ _⟩
          intro e
          have h1 := Hb1.out
          rw [e, Hd1.out] at h1
          exact hbd (Option.some.inj h1).symm
      · go_wp2
        go_ret
        refine ⟨congrArg Ending.returned (congrArg Value.bool (Eq.symm (decide_eq_true ?_))), _, rfl⟩
        obtain rfl : k = n := by omega
        have h := HE.out
        rw [HN.out, List.take_length, ← HN.out, HN2.out, List.take_length] at h
        exact h
  · have hnl : ¬ l = m := fun e => hne (by rw [hn, hn2, e])
    have hd : ((n : Int) != (n2 : Int)) = true := by simp; omega
    have HX := Lib.hid hnl
    clear hnl hn hn2
    go_enter Try.func95, Try.ntmps95
    go_wp2
    go_ret
    exact ⟨congrArg Ending.returned (congrArg Value.bool (Eq.symm (decide_eq_false HX.out))), 0, rfl⟩
set_option maxRecDepth 100000 in
set_option maxHeartbeats 1000000 in
theorem clone_any (w : World) (ad : Addr) (n c : Nat) (l : List Nat) (hp : Bytes w w.heap.size (.slice (some ad) n c) l) (hlong : n ≤ 1048576) :
    Calls Try.prog 66 #[.slice (some ad) n c] w fun e w' => ∃ A2 n2 c2, e = .returned (.slice A2 n2 c2) ∧ Mine w' w.heap.size A2 n2 c2 l ∧ Below w.heap.size w w' := by
  obtain ⟨i0, hi0, hz0, hz1, hz2⟩ := info_parts infoByte
  have HI := Lib.hid hi0
  have H0 := Lib.hid hz0
  have H1 := Lib.hid hz1
  have H2 := Lib.hid hz2
  have hsm := hp.small
  obtain ⟨⟨A, cc, hv, hlies, _⟩, _, _⟩ := hp
  injection hv with h1 h2 h3
  subst h1
  have hlen : (byt l).length = n * 1 := by rw [byt_length]; omega
  have HL := Lib.hid hlen
  have hbel : Below w.heap.size w (w.alloc (.cells #[] 5)) := (Below.refl _ _).alloc (Nat.le_refl _) _
  have hnews : ∀ j u, (byt l)[j]? = some u → (w.alloc (.cells #[] 5)).cell? (ad.add j) = some u := fun j u hj => (hlies.below hbel).cells j u hj
  have HN := Lib.hid hnews
  have HO : Hid (∀ v ∈ byt l, v.oneCell' = true) := one_byt l
  have hown : (w.alloc (.cells #[] 5)).ownsRow w.heap.size 5 1 (.slice (some ⟨w.heap.size, 0, none⟩) 0 0) 0 [] :=
    ⟨rfl, .inr ⟨w.heap.size, 0, #[], rfl, Nat.le_refl _, Go.heap_alloc_new w _, Nat.le_refl _, by simp, rfl, rfl⟩⟩
  have HW := Lib.hid hown
  have Hbel := Lib.hid hbel
  have HS := Lib.hid hsm
  have hnil : ∀ W : World, (binOp .eql 43 (.slice (some ad) n c) (.slice none 0 0)).run Try.prog W = .ok (.bool false) W := fun W => by
    rw [Lib.run_eql_slice_nil W 43 5 _ n c 0 0 Try.underlying43]
    rfl
  clear hi0 hz0 hz1 hz2 hlen hnews hown hbel hlies hsm h2 h3
  go_enter Try.func66, Try.ntmps66
  go_wp2_with (at_builtin; refine wpList_append_own _ rfl _ _ 43 rfl w.heap.size 5 i0 (.int .u8 0) 1 1 Try.underlying43 HI.out H0.out H1.out H2.out ?a1 (by decide) _ 0 [] rfl HW.out ad n c (byt l) rfl HL.out HN.out HO.out ?a2 ?a3 ?a4 ?_)
  case a1 => rfl
  case a2 => unfold maxLen; omega
  case a3 => omega
  case a4 => exact Hbel.out.size
  intro v' w2 hown2 hg2 _
  have hb2 := Hbel.out.grown hg2 Hbel.out.size (fun g hg => by
    have e : w.heap.size = g := by simpa [Value.ownBlock] using hg
    omega)
  have hM := Mine.of_own (l := l) (v := v') (base := w.heap.size) (w := w2) (by
    have h := hown2
    have e : n = l.length := by have := HL.out; rw [byt_length] at this; omega
    rw [e] at h
    exact h) HS.out
  obtain ⟨A2, n2, c2, rfl, hM⟩ := hM
  have H3 := Lib.hid hM
  have H4 := Lib.hid hb2
  clear hown2 hg2 hb2 hnil hM
  go_wp2
  go_ret
  exact ⟨A2, n2, c2, rfl, H3.out, H4.out⟩

set_option maxRecDepth 100000 in
set_option maxHeartbeats 1000000 in
/-- A page's data are as long as a page has room. -/
theorem pageFull_any (w : World) (x0 x1 x2 x3 : Int) (A : Option Addr) (n c : Nat) :
    Calls Try.prog 47 #[.agg #[.int .u32 x0, .int .u32 x1, .int .u32 x2, .int .u8 x3, .slice A n c]] w fun e w' => e = .returned (.bool (decide (n = 491))) ∧ Below w.heap.size w w' := by
  go_enter Try.func47, Try.ntmps47
  go_wp2
  go_ret
  refine ⟨congrArg Ending.returned (congrArg Value.bool ?_), ?_⟩
  · by_cases h : n = 491
    · subst h; rfl
    · rw [decide_eq_false h, beq_eq_false_iff_ne]; omega
  · exact (Below.refl _ _).alloc (Nat.le_refl _) _
end Go.Proofs.Ytalpippeelomjaa
