/- Contract: the law's few: the first fields, with short texts. -/
import Derived.Test.YteboemoebnlgaaaLay
import Derived.Test.YteboemoebnlgaaaTapeNilWalk
namespace Go.Proofs.Yteboemoebnlgaaa
open Go.RowKit
set_option linter.unusedSimpArgs false
set_option linter.unusedVariables false

structure Fd where
  k : Nat
  N : Nat
  s : ByteArray
  M : Nat
def Fd.ok (f : Fd) : Prop := f.k < 256 ∧ f.N < 18446744073709551616 ∧ f.M < 18446744073709551616 ∧ f.s.size ≤ maxLen
def fcell (f : Fd) : List Value := [.int .u8 (f.k : Int), .int .u64 (f.N : Int), .string f.s, .int .u64 (f.M : Int)]
def fcs (l : List Fd) : List Value := (l.map fcell).flatten
theorem fcs_length (l : List Fd) : (fcs l).length = l.length * 4 := by
  induction l with
  | nil => rfl
  | cons f l ih =>
    show (fcell f ++ fcs l).length = _
    rw [List.length_append, ih]
    show 4 + _ = _
    simp
    omega
theorem fcs_at (l : List Fd) (i j : Nat) (f : Fd) (hf : l[i]? = some f) (hj : j < 4) : (fcs l)[i * 4 + j]? = (fcell f)[j]? := by
  induction l generalizing i with
  | nil => simp at hf
  | cons g l ih =>
    show (fcell g ++ fcs l)[i * 4 + j]? = _
    rcases i with _ | i
    · simp at hf
      subst hf
      rw [List.getElem?_append_left (by show _ < 4; omega)]
      simp
    · rw [List.getElem?_append_right (by show 4 ≤ _; omega), show (i + 1) * 4 + j - (fcell g).length = i * 4 + j by show _ - 4 = _; omega]
      exact ih i (by simpa using hf)
theorem fcs_append (l m : List Fd) : fcs (l ++ m) = fcs l ++ fcs m := by unfold fcs; simp
/-- A slice of fields that came in. -/
structure Fields (w : World) (B : Nat) (v : Value) (l : List Fd) : Prop where
  form : ∃ A c, v = .slice A l.length c ∧ Lies w B A (fcs l) ∧ l.length ≤ c
  ok : ∀ f ∈ l, f.ok
  long : l.length ≤ maxLen
theorem Fields.at_ {w : World} {B : Nat} {A : Option Addr} {n c i : Nat} {l : List Fd} {f : Fd} (h : Fields w B (.slice A n c) l) (hf : l[i]? = some f) :
    ∃ ad, A = some ad ∧ ad.block < B ∧ w.cell? (ad.add (i * 4)) = some (.int .u8 (f.k : Int)) ∧ w.cell? (ad.add (i * 4 + 1)) = some (.int .u64 (f.N : Int)) ∧ w.cell? (ad.add (i * 4 + 2)) = some (.string f.s) ∧ w.cell? (ad.add (i * 4 + 3)) = some (.int .u64 (f.M : Int)) := by
  obtain ⟨A', c', hv, hl, _⟩ := h.form
  injection hv with e _ _
  subst e
  obtain ⟨ad, h0, hb, c0⟩ := hl (i * 4) _ (by have := fcs_at l i 0 f hf (by decide); exact this)
  subst h0
  exact ⟨ad, rfl, hb, c0, hl.cells _ _ (fcs_at l i 1 f hf (by decide)), hl.cells _ _ (fcs_at l i 2 f hf (by decide)), hl.cells _ _ (fcs_at l i 3 f hf (by decide))⟩
theorem addr_in (ad : Addr) (m j : Nat) (hj : j ≠ 0) : (⟨(ad.add m).block, (ad.add m).off + j, none⟩ : Addr) = ad.add (m + j) := ((if_neg hj).symm : _ = (ad.add m).add j).trans (addr_add_add ad m j)
/-- A field's cells, each as the walk spells it. -/
theorem Fields.load {w wr : World} {B : Nat} {A : Option Addr} {n c i : Nat} {l : List Fd} {f : Fd} (h : Fields w B (.slice A n c) l) (hf : l[i]? = some f) (hb : ∀ p : Addr, p.block < B → wr.cell? p = w.cell? p) :
    ∃ ad, A = some ad ∧ wr.cell? (ad.add (i * 4)) = some (.int .u8 (f.k : Int)) ∧ wr.cell? ⟨(ad.add (i * 4)).block, (ad.add (i * 4)).off + 1, none⟩ = some (.int .u64 (f.N : Int)) ∧ wr.cell? ⟨(ad.add (i * 4)).block, (ad.add (i * 4)).off + 2, none⟩ = some (.string f.s) ∧ wr.cell? ⟨(ad.add (i * 4)).block, (ad.add (i * 4)).off + 3, none⟩ = some (.int .u64 (f.M : Int)) := by
  obtain ⟨ad, hA, hbb, c0, c1, c2, c3⟩ := h.at_ hf
  refine ⟨ad, hA, ?_, ?_, ?_, ?_⟩
  · exact (hb _ (by rw [addr_add_block]; exact hbb)).trans c0
  · rw [addr_in _ _ _ (by decide)]; exact (hb _ (by rw [addr_add_block]; exact hbb)).trans c1
  · rw [addr_in _ _ _ (by decide)]; exact (hb _ (by rw [addr_add_block]; exact hbb)).trans c2
  · rw [addr_in _ _ _ (by decide)]; exact (hb _ (by rw [addr_add_block]; exact hbb)).trans c3
/-- A field with a short text, and a small bound. -/
def cutS (s : ByteArray) (k : Nat) : ByteArray := if s.size ≤ k then s else s.extract 0 k
def fewF (f : Fd) : Fd := ⟨f.k, f.N, cutS f.s 40, if f.k % 5 = 2 then f.M % 1000 else f.M⟩
def fewL (l : List Fd) : List Fd := (l.take 12).map fewF
theorem cutS_size (s : ByteArray) (k : Nat) : (cutS s k).size ≤ k := by
  unfold cutS
  split
  · assumption
  · rw [ByteArray.size_extract]; omega
set_option maxHeartbeats 1000000 in
theorem text_cut (w : World) (s : ByteArray) (k : Nat) (hs : s.size ≤ maxLen) (hk : k ≤ 1000) :
    Calls Try.prog 21 #[.string s, .int .i64 (k : Int)] w fun e w' => e = .returned (.string (cutS s k)) ∧ w = w' := by
  unfold maxLen at hs
  by_cases h : s.size ≤ k
  · have e : cutS s k = s := if_pos h
    rw [e]
    go_enter Try.func21, Try.ntmps21
    go_wp2
    go_ret
    exact ⟨rfl, rfl⟩
  · have e : cutS s k = s.extract 0 k := if_neg h
    rw [e]
    go_enter Try.func21, Try.ntmps21
    go_wp2
    go_ret
    exact ⟨rfl, rfl⟩
theorem infoFd : (Try.prog.info? 30).map (fun i => (i.zero, i.size, i.bytes)) = some (some (.agg #[.int .u8 0, .int .u64 0, .string ⟨#[]⟩, .int .u64 0]), 4, 40) := by kernel_rfl
theorem cells_new (w : World) (g : Nat) (hg : g = w.heap.size) (vs : List Value) (t : TypeId) (j : Nat) (u : Value) (h : vs[j]? = some u) : (w.alloc (.cells vs.toArray t)).cell? ((⟨g, 0, none⟩ : Addr).add j) = some u := by
  subst hg
  have hplain : (⟨w.heap.size, 0, none⟩ : Addr).add j = ⟨w.heap.size, j, none⟩ := by unfold Addr.add; split <;> simp_all
  rw [hplain, World.cell?_alloc_at _ _ _ _ rfl]
  simpa using h
theorem few_next {l : List Fd} {k : Nat} {f : Fd} (hf : l[k]? = some f) (h : k < 12) : fewL (l.take (k + 1)) = fewL (l.take k) ++ [fewF f] := by
  unfold fewL
  rw [List.take_take, List.take_take, Nat.min_eq_right (by omega), Nat.min_eq_right (by omega), List.take_add_one, hf, List.map_append]
  rfl
theorem few_same {l : List Fd} {k : Nat} (h : ¬ k < 12) : fewL (l.take (k + 1)) = fewL (l.take k) := by
  unfold fewL
  rw [List.take_take, List.take_take, Nat.min_eq_left (by omega), Nat.min_eq_left (by omega)]
theorem few_len (l : List Fd) : (fewL l).length ≤ 12 := by unfold fewL; rw [List.length_map, List.length_take]; omega
theorem own_few {w : World} {base k : Nat} {v : Value} {l : List Fd} {f g : Fd} (hf : l[k]? = some f) (h12 : k < 12) (hg : g = fewF f)
    (h : w.ownsRow base 30 4 v ((fewL (l.take k)).length + 1) (fcs (fewL (l.take k)) ++ fcell g)) : w.ownsRow base 30 4 v (fewL (l.take (k + 1))).length (fcs (fewL (l.take (k + 1)))) := by
  rw [few_next hf h12, List.length_append, fcs_append, ← hg]
  have e : fcs [g] = fcell g := by unfold fcs; simp
  rw [e]
  exact h
def FewR (W : World) (n : Nat) (l : List Fd) (out i : Value) (wr : World) : Prop :=
  ∃ k : Nat, k ≤ n ∧ i = .int .i64 (k : Int) ∧ wr.ownsRow W.heap.size 30 4 out (fewL (l.take k)).length (fcs (fewL (l.take k))) ∧ Below W.heap.size W wr
set_option maxRecDepth 100000 in
set_option maxHeartbeats 4000000 in
theorem few_any (w : World) (A : Option Addr) (n c : Nat) (l : List Fd) (hp : Fields w w.heap.size (.slice A n c) l) :
    Calls Try.prog 9 #[.slice A n c] w fun e w' => ∃ v, e = .returned v ∧ w'.ownsRow w.heap.size 30 4 v (fewL l).length (fcs (fewL l)) ∧ Below w.heap.size w w' := by
  have hlong := hp.long
  unfold maxLen at hlong
  have hn : n = l.length := by obtain ⟨A', c', hv, _⟩ := hp.form; injection hv
  obtain ⟨i0, hi0, hz0, hz1, hz2⟩ := info_parts infoFd
  have HI := Lib.hid hi0
  have H0 := Lib.hid hz0
  have H1 := Lib.hid hz1
  have H2 := Lib.hid hz2
  rw [← hn] at hlong
  have HN := Lib.hid hn
  have HP := Lib.hid hp
  clear hi0 hz0 hz1 hz2 hn hp
  go_enter Try.func9, Try.ntmps9
  go_wp2
  go_loopw [3, 8] (fun out i wr => FewR w n l out i wr) (fun _ i _ => n - (intOf i).toNat)
  case atStart => exact ⟨0, by omega, rfl, World.ownsRow_nil _ _ _ _, Below.refl _ _⟩
  case round =>
    obtain ⟨k, hk, rfl, hown, hb⟩ := hrel
    by_cases hlt : k < n
    · obtain ⟨f, hf⟩ : ∃ f, l[k]? = some f := ⟨_, List.getElem?_eq_getElem (by rw [← HN.out]; exact hlt)⟩
      obtain ⟨ad, hA, d0, d1, d2, d3⟩ := HP.out.load hf (fun p hp => hb.cell hp)
      subst hA
      have hok := HP.out.ok f (List.mem_of_getElem? hf)
      have HF := Lib.hid hf
      have HK : Hid (f.k < 256 ∧ f.N < 18446744073709551616 ∧ f.M < 18446744073709551616 ∧ f.s.size ≤ maxLen) := hok
      have HO := Lib.hid hown
      have HB := Lib.hid hb
      clear hf hok hown hb
      have HT := fun (x : World) => hide (text_cut x f.s 40 HK.out.2.2.2 (by decide))
      simp only [show ((40 : Nat) : Int) = 40 from rfl] at HT
      by_cases h12 : k < 12
      · by_cases hk2 : f.k % 5 = 2
        · have hk5 : ((f.k : Int) % 5 == 2) = true := by rw [beq_iff_eq]; omega
          have HK2 := Lib.hid hk2
          clear hk2
          go_wp2_with (first
            | (go_at_call 21; (with_reducible refine (unhide (HT _)).mono ?_); rintro e w1 ⟨rfl, rfl⟩)
            | (at_builtin; refine wpList_append_own _ rfl (.tmp 27) (.tmp 29) 22 rfl w.heap.size 30 i0 _ 4 40 Try.underlying22 HI.out H0.out H1.out H2.out rfl (by decide) _ _ _ rfl (World.ownsRow.alloc (World.ownsRow.alloc HO.out _) _) ⟨wr.heap.size + 1, 0, none⟩ 1 1 [.int .u8 (f.k : Int), .int .u64 (f.N : Int), .string (cutS f.s 40), .int .u64 ((f.M : Int) % 1000)] rfl rfl ?c1 ?c2 ?c3 ?c4 ?c5 ?_))
          case c1 => exact cells_new _ _ (by simp) _ _
          case c2 => intro u hu; simp at hu; rcases hu with rfl | rfl | rfl | rfl <;> rfl
          case c3 => have := few_len (l.take k); unfold maxLen; omega
          case c4 => have := few_len (l.take k); omega
          case c5 => have := HB.out.size; simp; omega
          intro v' w1 hown1 hg1 _
          have hbel := ((HB.out.alloc HB.out.size (.cells #[.int .u8 (f.k : Int), .int .u64 (f.N : Int), .string (cutS f.s 40), .int .u64 ((f.M : Int) % 1000)] 30)).alloc (by have := HB.out.size; simp; omega) (.cells #[.int .u8 (f.k : Int), .int .u64 (f.N : Int), .string (cutS f.s 40), .int .u64 ((f.M : Int) % 1000)] 30)).grown hg1 (by have := HB.out.size; simp; omega) (fun g hg => (own_block_lt HO.out hg).1)
          have HO2 := Lib.hid (own_few (g := ⟨f.k, f.N, cutS f.s 40, f.M % 1000⟩) HF.out h12 (by unfold fewF; rw [if_pos HK2.out]) (by show World.ownsRow _ _ _ _ _ _ (_ ++ [Value.int .u8 (f.k : Int), .int .u64 (f.N : Int), .string (cutS f.s 40), .int .u64 ((f.M % 1000 : Nat) : Int)]); rw [show ((f.M % 1000 : Nat) : Int) = (f.M : Int) % 1000 by omega]; exact hown1))
          have HB2 := Lib.hid hbel
          clear hown1 hbel hg1
          go_wp2
          go_roundw
          case rel => exact ⟨k + 1, by omega, by go_num, HO2.out, HB2.out⟩
          case measure => simp [intOf]; omega
        · have hk5 : ((f.k : Int) % 5 == 2) = false := by rw [beq_eq_false_iff_ne]; omega
          have HK2 := Lib.hid hk2
          clear hk2
          go_wp2_with (first
            | (go_at_call 21; (with_reducible refine (unhide (HT _)).mono ?_); rintro e w1 ⟨rfl, rfl⟩)
            | (at_builtin; refine wpList_append_own _ rfl (.tmp 27) (.tmp 29) 22 rfl w.heap.size 30 i0 _ 4 40 Try.underlying22 HI.out H0.out H1.out H2.out rfl (by decide) _ _ _ rfl (World.ownsRow.alloc (World.ownsRow.alloc HO.out _) _) ⟨wr.heap.size + 1, 0, none⟩ 1 1 [.int .u8 (f.k : Int), .int .u64 (f.N : Int), .string (cutS f.s 40), .int .u64 ((f.M : Int))] rfl rfl ?c1 ?c2 ?c3 ?c4 ?c5 ?_))
          case c1 => exact cells_new _ _ (by simp) _ _
          case c2 => intro u hu; simp at hu; rcases hu with rfl | rfl | rfl | rfl <;> rfl
          case c3 => have := few_len (l.take k); unfold maxLen; omega
          case c4 => have := few_len (l.take k); omega
          case c5 => have := HB.out.size; simp; omega
          intro v' w1 hown1 hg1 _
          have hbel := ((HB.out.alloc HB.out.size (.cells #[.int .u8 (f.k : Int), .int .u64 (f.N : Int), .string (cutS f.s 40), .int .u64 ((f.M : Int))] 30)).alloc (by have := HB.out.size; simp; omega) (.cells #[.int .u8 (f.k : Int), .int .u64 (f.N : Int), .string (cutS f.s 40), .int .u64 ((f.M : Int))] 30)).grown hg1 (by have := HB.out.size; simp; omega) (fun g hg => (own_block_lt HO.out hg).1)
          have HO2 := Lib.hid (own_few (g := ⟨f.k, f.N, cutS f.s 40, f.M⟩) HF.out h12 (by unfold fewF; rw [if_neg HK2.out]) hown1)
          have HB2 := Lib.hid hbel
          clear hown1 hbel hg1
          go_wp2
          go_roundw
          case rel => exact ⟨k + 1, by omega, by go_num, HO2.out, HB2.out⟩
          case measure => simp [intOf]; omega
      · go_wp2
        go_roundw
        case rel => exact ⟨k + 1, by omega, by go_num, by rw [few_same h12]; exact World.ownsRow.alloc HO.out _, HB.out.alloc HB.out.size _⟩
        case measure => simp [intOf]; omega
    · go_wp2
      go_ret
      obtain rfl : k = n := by omega
      rw [HN.out, List.take_length] at hown
      exact ⟨_, rfl, hown, hb⟩
end Go.Proofs.Yteboemoebnlgaaa
