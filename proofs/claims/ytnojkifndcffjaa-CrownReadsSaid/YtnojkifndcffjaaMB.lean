/- Cut, Awake, RefSum, Same, Join: joined by program (tools/merge.py). -/
import Derived.Test.YtnojkifndcffjaaMA
import Derived.OwnWalk
import Derived.Test.YtnojkifndcffjaaSum
import Derived.Lib.SlBytesConst
import Derived.Laws.Bits64
import Derived.Deep.QuietTactic
import Derived.BigQuiet
import Derived.Laws.AppendOwnNone
namespace Go.Proofs.Ytnojkifndcffjaa
open Go.RowKit

theorem infoByte : (Try.prog.info? 5).map (fun i => (i.zero, i.size, i.bytes)) = some (some (.int .u8 0), 1, 1) := by kernel_rfl

/-- The slice value v owns, in blocks from base on, just the bytes l. -/
def Own (w : World) (base : Nat) (v : Value) (l : List Nat) : Prop := w.ownsRow base 5 1 v l.length (byt l)
theorem Own.form {w : World} {base : Nat} {v : Value} {l : List Nat} (h : Own w base v l) : ∃ A c, v = .slice A l.length c ∧ l.length ≤ c ∧ (A = none → c = 0) ∧ l.length ≤ maxLen ∧ w.ownsRow base 5 1 (.slice A l.length c) l.length (byt l) := by
  obtain ⟨hl, ⟨rfl, h0⟩ | ⟨g, cap, cur, rfl, h1, h2, h3, h4, h5⟩⟩ := id h
  · rw [h0]
    refine ⟨none, 0, rfl, by omega, fun _ => rfl, by simp, ?_⟩
    unfold Own at h
    rw [h0] at h
    exact h
  · exact ⟨_, _, rfl, h3, fun h => (by cases h), by omega, h⟩
theorem Own.bytes {w : World} {base : Nat} {v : Value} {l : List Nat} (h : Own w base v l) (hs : ∀ b ∈ l, b < 256) : Bytes w w.heap.size v l := by
  obtain ⟨A, c, rfl, hc, hn, hm, ho⟩ := h.form
  exact ⟨⟨A, c, rfl, Lies.of_own ho, hc, hn⟩, hs, hm⟩

theorem own_nil (w : World) (base : Nat) : Own w base (.slice none 0 0) [] := World.ownsRow_nil _ _ _ _

def CutR (W : World) (n most : Nat) (l : List Nat) (out i : Value) (wr : World) : Prop :=
  ∃ k : Nat, k ≤ n ∧ i = .int .i64 (k : Int) ∧ Own wr W.heap.size out (l.take (min k most)) ∧ Below W.heap.size W wr

theorem own_snoc {w : World} {base k most b : Nat} {v : Value} {l : List Nat} (hk : k < l.length) (hm : k < most) (hb : l[k]? = some b)
    (h : w.ownsRow base 5 1 v (min k (min most l.length) + 1) (byt (l.take (min k most)) ++ [.int .u8 (b : Int)])) : Own w base v (l.take (min (k + 1) most)) := by
  have e1 : min k (min most l.length) = k := by omega
  have e2 : min k most = k := by omega
  have e3 : min (k + 1) most = k + 1 := by omega
  rw [e1, e2] at h
  rw [e3]
  unfold Own
  have e4 : l.take (k + 1) = l.take k ++ [b] := by rw [List.take_add_one, hb]; rfl
  rw [show (l.take (k + 1)).length = k + 1 by rw [List.length_take]; omega, e4, byt_append]
  exact h
theorem cell_one_new {w : World} (x : Value) (t : TypeId) (j : Nat) (u : Value) (h : [x][j]? = some u) : (w.alloc (.cells #[x] t)).cell? ((⟨w.heap.size, 0, none⟩ : Addr).add j) = some u := by
  rcases j with _ | j
  · rw [show (⟨w.heap.size, 0, none⟩ : Addr).add 0 = ⟨w.heap.size, 0, none⟩ from rfl, World.cell?_alloc_at _ _ _ _ rfl]
    simpa using h
  · simp at h

set_option maxRecDepth 100000 in
set_option maxHeartbeats 1000000 in
theorem cut_any (w : World) (v : Value) (l : List Nat) (most : Nat) (hp : Bytes w w.heap.size v l) (hmost : most ≤ 1048576) :
    Calls Try.prog 28 #[v, .int .i64 (most : Int)] w fun e w' => ∃ u, e = .returned u ∧ Own w' w.heap.size u (l.take most) ∧ Below w.heap.size w w' := by
  obtain ⟨⟨A, c, rfl, hlies, _⟩, hsm, hlong⟩ := hp
  unfold maxLen at hlong
  obtain ⟨i0, hi0, hz0, hz1, hz2⟩ := info_parts infoByte
  have HL := Lib.hid hlies
  have HS := Lib.hid hsm
  clear hlies hsm
  obtain ⟨n, hn⟩ : ∃ n, n = l.length := ⟨_, rfl⟩
  rw [← hn] at hlong ⊢
  have HN := Lib.hid hn
  have HI := Lib.hid hi0
  have H0 := Lib.hid hz0
  have H1 := Lib.hid hz1
  have H2 := Lib.hid hz2
  clear hn hi0 hz0 hz1 hz2
  go_enter Try.func28, Try.ntmps28
  go_wp2
  go_loopw [5, 10] (fun out i wr => CutR w n most l out i wr) (fun _ i _ => n - (intOf i).toNat)
  case atStart => exact ⟨0, by omega, rfl, own_nil _ _, Below.refl _ _⟩
  case round =>
    obtain ⟨k, hk, rfl, hown, hb⟩ := hrel
    by_cases hlt : k < n
    · obtain ⟨b, hb1⟩ : ∃ b, l[k]? = some b := ⟨_, List.getElem?_eq_getElem (by rw [← HN.out]; exact hlt)⟩
      obtain ⟨ad, hA, hbb, hc0⟩ := HL.out k (.int .u8 (b : Int)) (by rw [byt_at, hb1]; rfl)
      subst hA
      have hc := (hb.cell (p := ad.add k) (by rw [addr_add_block]; exact hbb)).trans hc0
      have Hb1 := Lib.hid hb1
      clear hb1 hbb hc0
      by_cases hm : k < most
      · go_wp2_with (at_builtin; refine wpList_append_own _ rfl _ _ 25 rfl w.heap.size 5 i0 (.int .u8 0) 1 1 Try.underlying25 HI.out H0.out H1.out H2.out rfl (by decide) _ _ _ rfl (World.ownsRow.alloc hown _) ⟨_, 0, none⟩ 1 1 [.int .u8 (b : Int)] rfl rfl ?c1 ?c2 ?c3 ?c4 ?c5 ?_)
        case c1 => exact cell_one_new _ _
        case c2 => simp [Value.oneCell']
        case c3 => rw [List.length_take]; unfold maxLen; omega
        case c4 => rw [List.length_take]; omega
        case c5 => exact ((hb.alloc hb.size _).size)
        intro v' w1 hown1 hg1 _
        have hbel := (hb.alloc hb.size _).grown hg1 (by have := hb.size; simp; omega) (fun g hg => (World.ownsRow.lt hown g hg).1)
        have hown2 := own_snoc (by rw [← HN.out]; exact hlt) hm Hb1.out hown1
        have HO := Lib.hid hown2
        have HB := Lib.hid hbel
        clear hown1 hown2 hbel hg1 hown hb
        go_wp2
        go_roundw
        case rel => exact ⟨k + 1, by omega, by go_num, HO.out, HB.out⟩
        case measure => simp [intOf]; omega
      · go_wp2
        go_roundw
        case rel => exact ⟨k + 1, by omega, by go_num, by rw [show min (k + 1) most = min k most by omega]; exact hown, hb⟩
        case measure => simp [intOf]; omega
    · go_wp2
      go_ret
      refine ⟨_, rfl, ?_, hb⟩
      obtain rfl : k = n := by omega
      rw [HN.out, Nat.min_comm, ← List.take_take, List.take_length] at hown
      exact hown
theorem cut_at (w : World) (v : Value) (l : List Nat) (most : Nat) (m : Int) (hm : m = (most : Int)) (hp : Bytes w w.heap.size v l) (hmost : most ≤ 1048576) :
    Calls Try.prog 28 #[v, .int .i64 m] w fun e w' => ∃ u, e = .returned u ∧ Own w' w.heap.size u (l.take most) ∧ Below w.heap.size w w' := by
  rw [hm]
  exact cut_any w v l most hp hmost
end Go.Proofs.Ytnojkifndcffjaa
namespace Go.Proofs.Ytnojkifndcffjaa
open Go.RowKit

theorem lies_block {w : World} {B g : Nat} {cs : Array Value} {t : TypeId} {fr : Nat × Nat} (hb : w.heap[g]? = some (.cells cs t fr)) (hB : g < B) : Lies w B (some ⟨g, 0, none⟩) cs.toList := fun j v hj => by
  refine ⟨⟨g, 0, none⟩, rfl, hB, ?_⟩
  have h1 : (⟨g, 0, none⟩ : Addr).add j = ⟨g, j, none⟩ := by
    unfold Addr.add
    split
    · simp_all
    · simp
  rw [h1, cell_of_row w g j cs t fr hb]
  simpa using hj

/-- The slice value that a block known whole makes. -/
theorem bytes_block {w : World} {B g : Nat} {l : List Nat} {n c : Nat} {fr : Nat × Nat} (hb : w.heap[g]? = some (.cells (byt l).toArray 5 fr)) (hB : g < B) (hn : n = l.length) (hc : n ≤ c) (hs : ∀ b ∈ l, b < 256) (hl : l.length ≤ maxLen) :
    Bytes w B (.slice (some ⟨g, 0, none⟩) n c) l := by
  subst hn
  have h := lies_block (B := B) hb hB
  simp only [] at h
  exact ⟨⟨_, c, rfl, h, hc, fun h => by cases h⟩, hs, hl⟩

/-- A list of slices in a block known whole. -/
theorem parts_block {w : World} {B g : Nat} {vs : Array Value} {t : TypeId} {ls : List (List Nat)} {n c : Nat} (hb : w.heap[g]? = some (.cells vs t (0, 0))) (hB : g < B) (hn : n = ls.length) (hv : vs.size = ls.length)
    (hall : ∀ (j : Nat) (u : Value) (l : List Nat), vs[j]? = some u → ls[j]? = some l → Bytes w B u l) (hl : ls.length ≤ maxLen) :
    Parts w B (.slice (some ⟨g, 0, none⟩) n c) ls := by
  subst hn
  exact ⟨⟨_, c, vs.toList, rfl, by simpa using hv, lies_block hb hB, fun j u l h1 h2 => hall j u l (by simpa using h1) h2⟩, hl⟩
end Go.Proofs.Ytnojkifndcffjaa
namespace Go.Proofs.Ytnojkifndcffjaa
open Go.RowKit

def RefOut (n : Nat) (l : List Nat) (st i : Value) : Prop :=
  ∃ k s : Nat, k ≤ n ∧ i = .int .i64 (k : Int) ∧ st = .int .u64 (s : Int) ∧ s < 4294967296 ∧ s = reg 4294967295 (l.take k)
def RefIn (s b : Nat) (st i : Value) : Prop :=
  ∃ j : Nat, j ≤ 8 ∧ i = .int .i64 (j : Int) ∧ st = .int .u64 ((mix s b j : Nat) : Int)

theorem bit_of {s b j : Nat} (hb : b < 256) (c : Bool) (h : ((IntKind.u64.wrap (((mix s b j : Nat) : Int) % 2 + (b : Int) / 2 ^ j)).tmod 2 == 1) = c) : decide ((mix s b j % 2 + b / 2 ^ j) % 2 = 1) = c := by
  have e : ((mix s b j : Nat) : Int) % 2 + (b : Int) / 2 ^ j = ((mix s b j % 2 + b / 2 ^ j : Nat) : Int) := by
    have h2 : (b : Int) / 2 ^ j = ((b / 2 ^ j : Nat) : Int) := by simp
    rw [h2]
    omega
  have hd := Nat.div_le_self b (2 ^ j)
  rw [e] at h
  clear e
  generalize b / 2 ^ j = q at h hd ⊢
  rw [IntKind.wrap_u64, Int.emod_eq_of_lt (by omega) (by omega), Int.tmod_eq_emod_of_nonneg (by omega)] at h
  rw [← h, Bool.eq_iff_iff]
  simp
  omega
theorem refIn_yes {s b j : Nat} (hj : j < 8) (hm : mix s b j < 4294967296) (hb : b < 256) (h : ((IntKind.u64.wrap (((mix s b j : Nat) : Int) % 2 + (b : Int) / 2 ^ j)).tmod 2 == 1) = true) :
    RefIn s b (.int .u64 (bits .xor .u64 (((mix s b j : Nat) : Int) / 2) 3988292384)) (.int .i64 ((j : Int) + 1)) := by
  refine ⟨j + 1, by omega, by go_num, ?_⟩
  rw [mix_one s b j (of_decide_eq_true (bit_of hb true h)), ← bits_xor_u64_nat _ _ (by omega) (by omega)]
  rw [show ((mix s b j : Nat) : Int) / 2 = ((mix s b j / 2 : Nat) : Int) by omega]
  rfl
theorem refIn_no {s b j : Nat} (hj : j < 8) (hb : b < 256) (h : ((IntKind.u64.wrap (((mix s b j : Nat) : Int) % 2 + (b : Int) / 2 ^ j)).tmod 2 == 1) = false) :
    RefIn s b (.int .u64 (((mix s b j : Nat) : Int) / 2)) (.int .i64 ((j : Int) + 1)) := by
  refine ⟨j + 1, by omega, by go_num, ?_⟩
  rw [mix_nought s b j (of_decide_eq_false (bit_of hb false h)), show ((mix s b j : Nat) : Int) / 2 = ((mix s b j / 2 : Nat) : Int) by omega]
theorem refOut_next {n k s b j : Nat} {l : List Nat} (hk : k < n) (hs : s < 4294967296) (hb : b < 256) (hl : l[k]? = some b) (hr : s = reg 4294967295 (l.take k)) (hj : j ≤ 8) (h8 : ¬ j < 8) :
    RefOut n l (.int .u64 ((mix s b j : Nat) : Int)) (.int .i64 ((k : Int) + 1)) := by
  obtain rfl : j = 8 := by omega
  rw [mix_eight s b hb]
  refine ⟨k + 1, stp s b, by omega, by go_num, rfl, stp_lt hs hb, ?_⟩
  rw [List.take_add_one, hl, reg_append, ← hr]
  rfl

set_option maxRecDepth 100000 in
set_option maxHeartbeats 1000000 in
theorem refSum_any (w : World) (v : Value) (l : List Nat) (hp : Bytes w w.heap.size v l) :
    Calls Try.prog 44 #[v] w fun e w' => e = .returned (.int .u32 (crc l : Int)) ∧ w = w' := by
  obtain ⟨⟨A, c, rfl, hlies, _⟩, hsm, hlong⟩ := hp
  unfold maxLen at hlong
  have HL := Lib.hid hlies
  have HS := Lib.hid hsm
  clear hlies hsm
  obtain ⟨n, hn⟩ : ∃ n, n = l.length := ⟨_, rfl⟩
  rw [← hn] at hlong ⊢
  have HN := Lib.hid hn
  clear hn
  go_enter Try.func44, Try.ntmps44
  go_wp2
  go_loop [3, 10] (fun st i => RefOut n l st i) (fun _ i => n - (intOf i).toNat)
  case atStart => exact ⟨0, 4294967295, by omega, rfl, rfl, by omega, rfl⟩
  case round =>
    obtain ⟨k, s, hk, rfl, rfl, hs, hreg⟩ := hrel
    have HR := Lib.hid hreg
    clear hreg
    by_cases hlt : k < n
    · obtain ⟨b, hb1⟩ : ∃ b, l[k]? = some b := ⟨_, List.getElem?_eq_getElem (by rw [← HN.out]; exact hlt)⟩
      have hb2 : b < 256 := HS.out b (List.mem_of_getElem? hb1)
      obtain ⟨ad, hA, hbb, hc⟩ := HL.out k (.int .u8 (b : Int)) (by rw [byt_at, hb1]; rfl)
      subst hA
      have Hb1 := Lib.hid hb1
      clear hb1 hbb
      go_wp2
      go_loop [3, 6] (fun st i => RefIn s b st i) (fun _ i => 8 - (intOf i).toNat)
      case atStart => exact ⟨0, by omega, rfl, by rw [mix_zero]⟩
      case round =>
        obtain ⟨j, hj, rfl, rfl⟩ := hrel
        have hm := mix_lt (s := s) (b := b) j hs hb2
        by_cases hjl : j < 8
        · go_wp2
          all_goals
            go_round
            case rel => first | exact refIn_yes hjl hm hb2 ‹_› | exact refIn_no hjl hb2 ‹_›
            case measure => simp [intOf]; omega
        · go_wp2
          go_round
          case rel => exact refOut_next hlt hs hb2 Hb1.out HR.out hj hjl
          case measure => simp [intOf]; omega
    · go_wp2
      go_ret
      refine ⟨ret_u32 ?_, rfl⟩
      obtain rfl : k = n := by omega
      unfold crc
      rw [← List.take_length (l := l), ← HN.out, ← HR.out]
      omega
end Go.Proofs.Ytnojkifndcffjaa
namespace Go.Proofs.Ytnojkifndcffjaa
open Go.RowKit

def SameR (w : World) (n : Nat) (l m : List Nat) (i : Value) (wr : World) : Prop :=
  ∃ k q : Nat, k ≤ n ∧ i = .int .i64 (k : Int) ∧ l.take k = m.take k ∧ wr = w.drewN q
def Quietly (w : World) (v : Value) (e : Ending) (w' : World) : Prop := e = .returned v ∧ ∃ q, w' = w.drewN q

set_option maxRecDepth 100000 in
set_option maxHeartbeats 1000000 in
theorem same_any (w : World) (v u : Value) (l m : List Nat) (hp : Bytes w w.heap.size v l) (hq : Bytes w w.heap.size u m) :
    Calls Try.prog 24 #[v, u] w (Quietly w (.bool (decide (l = m)))) := by
  obtain ⟨⟨A, c, rfl, hlies, _⟩, hsm, hlong⟩ := hp
  obtain ⟨⟨A2, c2, rfl, hlies2, _⟩, hsm2, hlong2⟩ := hq
  unfold maxLen at hlong hlong2
  have HL := Lib.hid hlies
  have HS := Lib.hid hsm
  have HL2 := Lib.hid hlies2
  have HS2 := Lib.hid hsm2
  clear hlies hsm hlies2 hsm2
  obtain ⟨n, hn⟩ : ∃ n, n = l.length := ⟨_, rfl⟩
  obtain ⟨n2, hn2⟩ : ∃ n2, n2 = m.length := ⟨_, rfl⟩
  rw [← hn] at hlong ⊢
  rw [← hn2] at hlong2 ⊢
  by_cases hne : n = n2
  · subst hne
    have HN := Lib.hid hn
    have HN2 := Lib.hid hn2
    clear hn hn2
    go_enter Try.func24, Try.ntmps24
    go_wp2
    go_loopw [13] (fun i wr => SameR w n l m i wr) (fun i _ => n - (intOf i).toNat)
    case atStart => exact ⟨0, 0, by omega, rfl, rfl, rfl⟩
    case round =>
      obtain ⟨k, q, hk, rfl, heq, rfl⟩ := hrel
      have HE := Lib.hid heq
      clear heq
      by_cases hlt : k < n
      · obtain ⟨b, hb1⟩ : ∃ b, l[k]? = some b := ⟨_, List.getElem?_eq_getElem (by rw [← HN.out]; exact hlt)⟩
        obtain ⟨d, hd1⟩ : ∃ d, m[k]? = some d := ⟨_, List.getElem?_eq_getElem (by rw [← HN2.out]; exact hlt)⟩
        obtain ⟨ad, hA, hbb, hc0⟩ := HL.out k (.int .u8 (b : Int)) (by rw [byt_at, hb1]; rfl)
        obtain ⟨ad2, hA2, hbb2, hc2⟩ := HL2.out k (.int .u8 (d : Int)) (by rw [byt_at, hd1]; rfl)
        subst hA
        subst hA2
        have h1 : (w.drewN q).cell? (ad.add k) = some (.int .u8 (b : Int)) := hc0
        have h2 : (w.drewN q).cell? (ad2.add k) = some (.int .u8 (d : Int)) := hc2
        have Hb1 := Lib.hid hb1
        have Hd1 := Lib.hid hd1
        clear hb1 hd1
        by_cases hbd : b = d
        · subst hbd
          go_wp2
          go_quiet (fail)
          go_wp2
          go_roundw
          case rel => exact ⟨k + 1, _, by omega, by go_num, by rw [List.take_add_one, List.take_add_one, HE.out, Hb1.out, Hd1.out], rfl⟩
          case measure => simp [intOf]; omega
        · have hne : ((b : Int) != (d : Int)) = true := by simp; omega
          go_wp2
          go_quiet (fail)
          go_wp2
          go_ret
          refine ⟨congrArg Ending.returned (congrArg Value.bool (Eq.symm (decide_eq_false ?_))), _, World.drewN_drewN _ _ _⟩
          intro e
          have h1 := Hb1.out
          rw [e, Hd1.out] at h1
          exact hbd (Option.some.inj h1).symm
      · go_wp2
        go_ret
        refine ⟨congrArg Ending.returned (congrArg Value.bool (Eq.symm (decide_eq_true ?_))), _, rfl⟩
        obtain rfl : k = n := by omega
        have h := HE.out
        rw [HN.out, List.take_length, ← HN.out, HN2.out, List.take_length] at h
        exact h
  · have hnl : ¬ l = m := fun e => hne (by rw [hn, hn2, e])
    have hd : ((n : Int) != (n2 : Int)) = true := by simp; omega
    have HX := Lib.hid hnl
    clear hnl hn hn2
    go_enter Try.func24, Try.ntmps24
    go_wp2
    go_ret
    exact ⟨congrArg Ending.returned (congrArg Value.bool (Eq.symm (decide_eq_false HX.out))), 0, rfl⟩
end Go.Proofs.Ytnojkifndcffjaa
namespace Go.Proofs.Ytnojkifndcffjaa
open Go.RowKit

def JoinR (W : World) (n : Nat) (ls : List (List Nat)) (out i : Value) (wr : World) : Prop :=
  ∃ k : Nat, k ≤ n ∧ i = .int .i64 (k : Int) ∧ Own wr W.heap.size out (ls.take k).flatten ∧ Below W.heap.size W wr
theorem flatten_take_le (ls : List (List Nat)) (k : Nat) : (ls.take k).flatten.length ≤ ls.flatten.length := by
  have h : ls.flatten = (ls.take k).flatten ++ (ls.drop k).flatten := by rw [← List.flatten_append, List.take_append_drop]
  rw [h, List.length_append]
  omega
theorem flatten_next {ls : List (List Nat)} {k : Nat} {l : List Nat} (h : ls[k]? = some l) : (ls.take (k + 1)).flatten = (ls.take k).flatten ++ l := by
  rw [List.take_add_one, h, List.flatten_append]
  simp
theorem one_byt (l : List Nat) : ∀ u ∈ byt l, u.oneCell' = true := by
  intro u hu
  unfold byt at hu
  obtain ⟨b, _, rfl⟩ := List.mem_map.1 hu
  rfl
theorem Lies.cells {w : World} {B : Nat} {ad : Addr} {vs : List Value} (h : Lies w B (some ad) vs) (j : Nat) (u : Value) (hj : vs[j]? = some u) : w.cell? (ad.add j) = some u := by
  obtain ⟨ad', e, _, hc⟩ := h j u hj
  injection e with e
  rw [e]
  exact hc
theorem Lies.empty {w : World} {B : Nat} {vs : List Value} (h : Lies w B none vs) : vs = [] := by
  rcases vs with _ | ⟨v, r⟩
  · rfl
  · obtain ⟨ad, e, _⟩ := h 0 v rfl
    cases e
theorem own_of_row {w : World} {base N : Nat} {v : Value} {l : List Nat} (h : w.ownsRow base 5 1 v N (byt l)) : Own w base v l := by
  have h1 := h.1
  rw [byt_length] at h1
  obtain rfl : N = l.length := by omega
  exact h
theorem own_more {w : World} {base k N : Nat} {v : Value} {ls : List (List Nat)} {l : List Nat} (hl : ls[k]? = some l)
    (h : w.ownsRow base 5 1 v N (byt (ls.take k).flatten ++ byt l)) : Own w base v (ls.take (k + 1)).flatten := by
  rw [← byt_append, ← flatten_next hl] at h
  exact own_of_row h

set_option maxRecDepth 100000 in
set_option maxHeartbeats 1000000 in
theorem join_any (w : World) (v : Value) (ls : List (List Nat)) (hp : Parts w w.heap.size v ls) (htot : ls.flatten.length ≤ 1048576) :
    Calls Try.prog 29 #[v] w fun e w' => ∃ u, e = .returned u ∧ Own w' w.heap.size u ls.flatten ∧ Below w.heap.size w w' := by
  obtain ⟨⟨A, c, vs, rfl, hvl, hlies, hbytes⟩, hlong⟩ := hp
  unfold maxLen at hlong
  obtain ⟨i0, hi0, hz0, hz1, hz2⟩ := info_parts infoByte
  have HV := Lib.hid hvl
  have HL := Lib.hid hlies
  have HB := Lib.hid hbytes
  clear hvl hlies hbytes
  obtain ⟨n, hn⟩ : ∃ n, n = ls.length := ⟨_, rfl⟩
  rw [← hn] at hlong ⊢
  have HN := Lib.hid hn
  have HI := Lib.hid hi0
  have H0 := Lib.hid hz0
  have H1 := Lib.hid hz1
  have H2 := Lib.hid hz2
  have HT := Lib.hid htot
  clear hn hi0 hz0 hz1 hz2 htot
  go_enter Try.func29, Try.ntmps29
  go_wp2
  go_loopw [3, 8] (fun out i wr => JoinR w n ls out i wr) (fun _ i _ => n - (intOf i).toNat)
  case atStart => exact ⟨0, by omega, rfl, own_nil _ _, Below.refl _ _⟩
  case round =>
    obtain ⟨k, hk, rfl, hown, hb⟩ := hrel
    by_cases hlt : k < n
    · obtain ⟨l, hl⟩ : ∃ l, ls[k]? = some l := ⟨_, List.getElem?_eq_getElem (by rw [← HN.out]; exact hlt)⟩
      obtain ⟨u, hu⟩ : ∃ u, vs[k]? = some u := ⟨_, List.getElem?_eq_getElem (by rw [HV.out, ← HN.out]; exact hlt)⟩
      obtain ⟨⟨A1, c1, rfl, hlies1, _, hn1⟩, hsm, hlong1⟩ := HB.out k u l hu hl
      obtain ⟨ad, hA, hbb, hc0⟩ := HL.out k _ hu
      subst hA
      have hc := (hb.cell (p := ad.add k) (by rw [addr_add_block]; exact hbb)).trans hc0
      have hlies2 := hlies1.below hb
      have hmore : (ls.take k).flatten.length + l.length ≤ 1048576 := by
        have h1 := flatten_take_le ls (k + 1)
        rw [flatten_next hl, List.length_append] at h1
        have := HT.out
        omega
      have HL1 := Lib.hid hlies2
      have Hl := Lib.hid hl
      have HM := Lib.hid hmore
      have HO := Lib.hid hown
      clear hlies1 hlies2 hsm hl hu hc0 hlong1 hmore
      rcases A1 with _ | ad1
      · have hl0 : l = [] := by
          have h1 := HL1.out.empty
          rw [← List.length_eq_zero_iff, ← byt_length, h1]
          rfl
        obtain rfl : c1 = 0 := hn1 rfl
        subst hl0
        clear hn1
        go_wp2_with (at_builtin; refine wpList_append_own_none rfl _ _ 25 rfl w.heap.size 5 i0 1 Try.underlying25 HI.out _ _ _ rfl HO.out rfl ?_)
        go_roundw
        case rel => exact ⟨k + 1, by omega, by go_num, by rw [flatten_next Hl.out, List.append_nil]; exact HO.out, hb⟩
        case measure => simp [intOf]; omega
      · clear hn1
        go_wp2_with (at_builtin; refine wpList_append_own _ rfl _ _ 25 rfl w.heap.size 5 i0 (.int .u8 0) 1 1 Try.underlying25 HI.out H0.out H1.out H2.out rfl (by decide) _ _ _ rfl HO.out ad1 l.length c1 (byt l) rfl ?c1 ?c2 ?c3 ?c4 ?c5 ?c6 ?_)
        case c1 => rw [byt_length]; omega
        case c2 => exact HL1.out.cells
        case c3 => exact one_byt l
        case c4 => have := HM.out; unfold maxLen; omega
        case c5 => have := HM.out; omega
        case c6 => exact hb.size
        intro v' w1 hown1 hg1 _
        have hbel := hb.grown hg1 hb.size (fun g hg => (World.ownsRow.lt HO.out g hg).1)
        have HO2 := Lib.hid (own_more Hl.out hown1)
        have HB2 := Lib.hid hbel
        clear hown1 hbel hg1 hb
        go_wp2
        go_roundw
        case rel => exact ⟨k + 1, by omega, by go_num, HO2.out, HB2.out⟩
        case measure => simp [intOf]; omega
    · go_wp2
      go_ret
      refine ⟨_, rfl, ?_, hb⟩
      obtain rfl : k = n := by omega
      rw [HN.out, List.take_length] at hown
      exact hown
end Go.Proofs.Ytnojkifndcffjaa
