/- SSort, AIds: joined by program (tools/merge.py). -/
import Derived.Test.YtdphpjlhkamadaaZ36
import Derived.Test.YtdphpjlhkamadaaKLaid
import Derived.Lib.ItoaNum
import Derived.Test.YtdphpjlhkamadaaZ29
namespace Go.Proofs.Ytdphpjlhkamadaa
open Go.RowKit
open Go.Sort (PermIn SortedIn SWO swp Holds putRow putCells grow At mapBlock onCells heap_grow_old)
set_option linter.unusedSimpArgs false
set_option linter.unusedVariables false
set_option maxRecDepth 100000
theorem insertion_nil (w : World) (cap : Nat) : Calls Try.prog 90 #[.slice none 0 cap, .int .i64 0, .int .i64 0] w fun e w' => e = .returned (.tuple #[]) ∧ w' = w := by
  go_enter Try.func90, Try.ntmps90
  go_wp2_with fail
  go_loopw [6] (fun vi wr => vi = .int .i64 1 ∧ wr = w) (fun _ _ => 0)
  case atStart => exact ⟨rfl, rfl⟩
  case round =>
    obtain ⟨rfl, rfl⟩ := hrel
    go_wp2
    go_end0
    exact ⟨rfl, rfl⟩
theorem pdq_nil (w : World) (cap limit : Nat) : Calls Try.prog 82 #[.slice none 0 cap, .int .i64 0, .int .i64 0, .int .i64 limit] w fun e w' => e = .returned (.tuple #[]) ∧ w' = w := by
  have HI := fun (x : World) => Lib.hid (insertion_nil x cap)
  go_enter Try.func82, Try.ntmps82
  go_wp2_with fail
  go_loopw [1, 2, 3, 8, 9] (fun s1 s2 s3 s8 s9 wr => s1 = .int .i64 0 ∧ s2 = .int .i64 0 ∧ s3 = .int .i64 limit ∧ s8 = .bool true ∧ s9 = .bool true ∧ wr = w) (fun _ _ _ _ _ _ => 0)
  case atStart => exact ⟨rfl, rfl, rfl, rfl, rfl, rfl⟩
  case round =>
    obtain ⟨rfl, rfl, rfl, rfl, rfl, rfl⟩ := hrel
    go_wp2_with fail
    refine (HI _).out.mono ?_
    rintro e w1 ⟨rfl, rfl⟩
    go_wp2_with fail
    (try simp only [Exit.inBlock, Exit.then])
    refine bodyPost_ret (results_none rfl _ _ _) rfl ?_
    exact ⟨rfl, rfl⟩
theorem len_small (n : Nat) (hn : n < 4611686018427387904) : Lib.bitLen n < 4611686018427387904 := by
  rcases Nat.eq_zero_or_pos n with rfl | h
  · have := Lib.bitLenAux_zero 64
    show Lib.bitLenAux 64 0 < _
    omega
  · have hb := Lib.bitLenAux_bounds 64 n (by omega) (by omega)
    show Lib.bitLenAux 64 n < _
    rcases Nat.lt_or_ge 63 (Lib.bitLenAux 64 n) with h2 | h2
    · have h3 : 2 ^ 63 ≤ 2 ^ (Lib.bitLenAux 64 n - 1) := Nat.pow_le_pow_right (by omega) (by omega)
      omega
    · omega
theorem sort_any (w : World) (blk off len cap : Nat) (d : Array Nat) (hlen : d.size = len) (h0 : Holds eU w blk off d) (hb : blk < w.heap.size) (hsz : len < 4611686018427387904) :
    Calls Try.prog 77 #[.slice (some ⟨blk, off, none⟩) len cap] w (SortR w blk off 0 len d) := by
  have HC := fun (x : World) => Lib.hid (Try.bits_Len (len : Int) x (by omega) (by omega))
  rw [show (len : Int).toNat = len by omega] at HC
  have HL := len_small len hsz
  obtain ⟨n, hn⟩ : ∃ n, n = Lib.bitLen len := ⟨_, rfl⟩
  rw [← hn] at HC HL
  have hp := pdq_any (len + 1) w blk off len cap 0 len n d (by omega) hlen h0 hb (by omega) (Nat.le_refl _) hsz HL (.inl rfl)
  rw [show ((0 : Nat) : Int) = 0 from rfl] at hp
  have HP := Lib.hid hp
  clear hp h0 hn hlen
  go_enter Try.func77, Try.ntmps77
  go_wp2_with (first
    | (go_at_call 83; refine (HC _).out.mono ?_; rintro e wq ⟨rfl, rfl⟩)
    | (go_at_call 82; refine HP.out.mono ?_; rintro e w1 ⟨rfl, hr⟩; have HR := Lib.hid hr; clear hr))
  go_end0
  exact ⟨rfl, HR.out⟩
theorem sort_nil (w : World) (cap : Nat) : Calls Try.prog 77 #[.slice none 0 cap] w fun e w' => e = .returned (.tuple #[]) ∧ w' = w := by
  have HC := fun (x : World) => Lib.hid (Try.bits_Len 0 x (by omega) (by omega))
  obtain ⟨n, hn⟩ : ∃ n, n = Lib.bitLen (0 : Int).toNat := ⟨_, rfl⟩
  rw [← hn] at HC
  have HP := fun (x : World) => Lib.hid (pdq_nil x cap n)
  clear hn
  go_enter Try.func77, Try.ntmps77
  go_wp2_with (first
    | (go_at_call 83; refine (HC _).out.mono ?_; rintro e wq ⟨rfl, rfl⟩)
    | (go_at_call 82; refine (HP _).out.mono ?_; rintro e w1 ⟨rfl, rfl⟩))
  go_end0
  exact ⟨rfl, rfl⟩
/-! The block of the row behind the sort. -/
section
variable {w w' : World} {g : Nat} {d d' : Array Nat}
theorem at_block {cur : Array Value} {e : TypeId} {z : Nat × Nat} (h : At eU w g 0 d' w') (hb : w.heap[g]? = some (.cells cur e z)) : w'.heap[g]? = some (.cells (putCells eU 0 d' cur) e z) := by
  obtain ⟨n, os, rfl⟩ := h
  have hg : g < w.heap.size := (Array.getElem?_eq_some_iff.1 hb).1
  rw [heap_grow_old _ _ (by simpa using hg)]
  simp [putRow, mapBlock, Sort.ahead, Array.getElem?_modify, hb, onCells]
theorem at_grown (h : At eU w g 0 d' w') : w.grownBy w' (some g) := by
  obtain ⟨n, os, rfl⟩ := h
  refine ⟨rfl, rfl, rfl, by simp, fun k hk hne => ?_⟩
  rw [heap_grow_old _ _ (by simpa using hk)]
  have : g ≠ k := fun e => hne (by rw [e])
  simp [putRow, mapBlock, Sort.ahead, Array.getElem?_modify, this]
theorem put_take (cur : Array Value) (d : Array Nat) (h : d.size ≤ cur.size) : (putCells eU 0 d cur).toList.take d.size = d.toList.map eU := by
  apply List.ext_getElem?
  intro j
  by_cases hj : j < d.size
  · rw [List.getElem?_take_of_lt hj, Array.getElem?_toList]
    simp [putCells, hj, show j < cur.size by omega]
  · rw [List.getElem?_take_eq_none (by omega), List.getElem?_eq_none (by simp; omega)]
theorem holds_own {base n cap : Nat} {e : TypeId} {ys : List Nat} (h : w.ownsRow base e 1 (.slice (some ⟨g, 0, none⟩) n cap) n (ys.map eU)) : Holds eU w g 0 ys.toArray := fun j hj => by
  have hj2 : j < ys.length := by simpa using hj
  refine ⟨?_, by rw [Nat.zero_add]; exact h.frozenAt j⟩
  rw [Nat.zero_add, h.cellAt j (by have := h.1; simp at this; omega)]
  simp [hj2]
theorem own_sorted {base n cap : Nat} {e : TypeId} {xs : List Value} (h : w.ownsRow base e 1 (.slice (some ⟨g, 0, none⟩) n cap) n xs) (hA : At eU w g 0 d' w') (hs : d'.size = n) : w'.ownsRow base e 1 (.slice (some ⟨g, 0, none⟩) n cap) n (d'.toList.map eU) := by
  rcases h.2 with ⟨h0, _⟩ | ⟨g', cap', cur, hv, hbase, hb, h1, h2, h3, h4⟩
  · cases h0
  · injection hv with hv1 hv2 hv3
    injection hv1 with hv1
    injection hv1 with hv1
    subst hv1 hv3
    refine ⟨by simp [hs], .inr ⟨g, cap, _, rfl, hbase, at_block hA hb, h1, h2, by simp [putCells, h3], ?_⟩⟩
    rw [Nat.mul_one, ← hs]
    exact put_take cur d' (by omega)
end
end Go.Proofs.Ytdphpjlhkamadaa
namespace Go.Proofs.Ytdphpjlhkamadaa
open Go.RowKit
open Go.Sort (PermIn SortedIn SWO At)
set_option linter.unusedSimpArgs false
set_option linter.unusedVariables false
set_option maxRecDepth 100000
theorem ids_eU (l : List Nat) : ids l = l.map eU := rfl
theorem collect_any (Bm b : Nat) (vs : List (Nat × Value)) (w : World) (hBm : Bm < w.heap.size) (hm : w.cell? ⟨Bm, 0, none⟩ = some (.map (some b))) (hM : MapV w b vs) (hlen : vs.length ≤ 1000000000) :
    Calls Try.prog 76 #[.func (.func 78) #[] #[.pointer (some ⟨Bm, 0, none⟩)]] w fun e w' =>
      ∃ (v : Value) (ys : List Nat), e = .returned v ∧ ys.Perm (vs.map (·.1)) ∧ w'.ownsRow w.heap.size 24 1 v ys.length (ids ys) ∧ Below w.heap.size w w' := by
  have HC := Lib.hid (appendSeq_any Bm b vs w hBm hm hM hlen)
  clear hBm hm hM hlen
  go_enter Try.func76, Try.ntmps76
  go_wp2_with (go_at_call 81; refine HC.out.mono ?_; rintro e w1 ⟨v, ys, rfl, hp, ho, hb⟩; have HP := Lib.hid hp; have HO := Lib.hid ho; have HB := Lib.hid hb; clear hp ho hb)
  go_ret
  exact ⟨v, ys, rfl, HP.out, HO.out, HB.out⟩
theorem sorted_keys {ks : List Nat} (hk : ks.Pairwise (· < ·)) {ys : List Nat} (hp : ys.Perm ks) {d' : Array Nat} (h1 : PermIn 0 ys.length ys.toArray d') (h2 : SortedIn ltU 0 ys.length d') : d'.toList = ks := by
  have hs : d'.size = ys.length := by have := h1.1; simpa using this
  have hl : ys.length = ks.length := hp.length_eq
  have huniq := Sort.sorted_unique_holds (lt := ltU) swoU (fun x y e1 e2 => by have := ltU_false.1 e1; have := ltU_false.1 e2; omega)
  have hperm : d'.toList.Perm ks := by
    have h3 := h1.2.2
    rw [show d'.extract 0 ys.length = d' by rw [← hs]; simp, show ys.toArray.extract 0 ys.length = ys.toArray by simp] at h3
    exact h3.trans (by simpa using hp)
  have hsortK : SortedIn ltU 0 ks.toArray.size ks.toArray := fun i j _ hij hj => by
    have hj2 : j < ks.length := by simpa using hj
    have := (List.pairwise_iff_getElem.1 hk) i j (by omega) hj2 hij
    rw [ltU_false]
    simp [show i < ks.length by omega, hj2]
    omega
  have e1 := huniq ks.toArray ks.toArray (Sort.permIn_refl _ _ _) hsortK
  have e2 := huniq ks.toArray d' ⟨by rw [hs, hl]; simp, fun i hi => by
      have hi2 : ks.length ≤ i := by
        rcases hi with h | h
        · omega
        · simpa using h
      rw [getElem!_neg _ i (by omega), getElem!_neg _ i (by simp; omega)], by
      rw [show d'.extract 0 ks.toArray.size = d' by rw [show ks.toArray.size = d'.size by simp; omega]; simp, show ks.toArray.extract 0 ks.toArray.size = ks.toArray by simp]
      exact hperm⟩ (by rw [show ks.toArray.size = ys.length by simp; omega]; exact h2)
  rw [e2, ← e1]
theorem sorted_any (Bm b : Nat) (vs : List (Nat × Value)) (w : World) (hBm : Bm < w.heap.size) (hm : w.cell? ⟨Bm, 0, none⟩ = some (.map (some b))) (hM : MapV w b vs) (hlen : vs.length ≤ 1000000000) :
    Calls Try.prog 58 #[.func (.func 78) #[] #[.pointer (some ⟨Bm, 0, none⟩)]] w fun e w' =>
      ∃ v : Value, e = .returned v ∧ w'.ownsRow w.heap.size 24 1 v vs.length (ids (vs.map (·.1))) ∧ Below w.heap.size w w' := by
  have HR := Lib.hid hM.rise
  have HC := Lib.hid (collect_any Bm b vs w hBm hm hM hlen)
  have HN := Lib.hid hlen
  clear hBm hm hM hlen
  go_enter Try.func58, Try.ntmps58
  go_wp2_with fail
  refine HC.out.mono ?_
  rintro e w1 ⟨v, ys, rfl, hp, ho, hb⟩
  have hl : ys.length = vs.length := by have := hp.length_eq; simpa using this
  rcases ho.2 with ⟨rfl, hz⟩ | ⟨g, cap, cur, rfl, hbase, hgb, h1, h2, h3, h4⟩
  · have HO := Lib.hid ho
    have HB := Lib.hid hb
    have HZ := Lib.hid (show vs = [] from List.eq_nil_of_length_eq_zero (by omega))
    have HS := fun (x : World) => Lib.hid (sort_nil x 0)
    clear ho hb hp hz hl
    go_wp2_with (go_at_call 77; refine (HS _).out.mono ?_; rintro e w2 ⟨rfl, rfl⟩)
    go_ret
    refine ⟨_, rfl, ?_, HB.out⟩
    rw [HZ.out]
    exact World.ownsRow_nil _ _ _ _
  · obtain ⟨n, hn⟩ : ∃ n, n = ys.length := ⟨_, rfl⟩
    rw [← hn] at ho ⊢
    have hho := holds_own (by rw [ids_eU] at ho; exact ho)
    have HS := Lib.hid (sort_any w1 g 0 n cap ys.toArray (by rw [hn]; simp) hho (lt_of_heap2 hgb) (by have := HN.out; omega))
    have HO := Lib.hid ho
    have HB := Lib.hid hb
    have HP := Lib.hid hp
    have HE := Lib.hid hn
    have HBS := Lib.hid hbase
    have HL := Lib.hid hl
    clear ho hb hp hn hho hgb h1 h2 h3 h4 hbase hl
    go_wp2_with fail
    refine HS.out.mono ?_
    rintro e w2 ⟨rfl, d', hP, hSd, hA⟩
    have HQ := Lib.hid (sorted_keys (ks := vs.map (·.1)) (by have := HR.out; unfold Rise at this; rw [List.pairwise_map]; exact this) HP.out (by rw [← HE.out]; exact hP) (by rw [← HE.out]; exact hSd))
    have HW := Lib.hid (own_sorted HO.out hA (by have h1 := hP.1; rw [h1, HE.out]; simp))
    have HB2 := Lib.hid (HB.out.grown (at_grown hA) HB.out.size (fun j hj => by cases hj; exact HBS.out))
    clear hP hSd hA
    go_wp2_with fail
    go_ret
    refine ⟨_, rfl, ?_, HB2.out⟩
    have h5 := HW.out
    rw [HQ.out] at h5
    rw [← HL.out, ← HE.out]
    exact h5
end Go.Proofs.Ytdphpjlhkamadaa
