/- Contract: the numbers of an arena's nodes, in order. -/
import Derived.Test.YtogkeoainejfcaaAKeys
import Derived.Test.YtogkeoainejfcaaR2
namespace Go.Proofs.Ytogkeoainejfcaa
open Go.RowKit
open Go.Sort (PermIn SortedIn SWO At)
set_option linter.unusedSimpArgs false
set_option linter.unusedVariables false
set_option maxRecDepth 100000
theorem ids_eU (l : List Nat) : ids l = l.map eU := rfl
theorem collect_any (Bm b : Nat) (vs : List (Nat × Value)) (w : World) (hBm : Bm < w.heap.size) (hm : w.cell? ⟨Bm, 0, none⟩ = some (.map (some b))) (hM : MapV w b vs) (hlen : vs.length ≤ 1000000000) :
    Calls Try.prog 76 #[.func (.func 78) #[] #[.pointer (some ⟨Bm, 0, none⟩)]] w fun e w' =>
      ∃ (v : Value) (ys : List Nat), e = .returned v ∧ ys.Perm (vs.map (·.1)) ∧ w'.ownsRow w.heap.size 24 1 v ys.length (ids ys) ∧ Below w.heap.size w w' := by
  have HC := Lib.hid (appendSeq_any Bm b vs w hBm hm hM hlen)
  clear hBm hm hM hlen
  go_enter Try.func76, Try.ntmps76
  go_wp2_with (go_at_call 81; refine HC.out.mono ?_; rintro e w1 ⟨v, ys, rfl, hp, ho, hb⟩; have HP := Lib.hid hp; have HO := Lib.hid ho; have HB := Lib.hid hb; clear hp ho hb)
  go_ret
  exact ⟨v, ys, rfl, HP.out, HO.out, HB.out⟩
theorem sorted_keys {ks : List Nat} (hk : ks.Pairwise (· < ·)) {ys : List Nat} (hp : ys.Perm ks) {d' : Array Nat} (h1 : PermIn 0 ys.length ys.toArray d') (h2 : SortedIn ltU 0 ys.length d') : d'.toList = ks := by
  have hs : d'.size = ys.length := by have := h1.1; simpa using this
  have hl : ys.length = ks.length := hp.length_eq
  have huniq := Sort.sorted_unique_holds (lt := ltU) swoU (fun x y e1 e2 => by have := ltU_false.1 e1; have := ltU_false.1 e2; omega)
  have hperm : d'.toList.Perm ks := by
    have h3 := h1.2.2
    rw [show d'.extract 0 ys.length = d' by rw [← hs]; simp, show ys.toArray.extract 0 ys.length = ys.toArray by simp] at h3
    exact h3.trans (by simpa using hp)
  have hsortK : SortedIn ltU 0 ks.toArray.size ks.toArray := fun i j _ hij hj => by
    have hj2 : j < ks.length := by simpa using hj
    have := (List.pairwise_iff_getElem.1 hk) i j (by omega) hj2 hij
    rw [ltU_false]
    simp [show i < ks.length by omega, hj2]
    omega
  have e1 := huniq ks.toArray ks.toArray (Sort.permIn_refl _ _ _) hsortK
  have e2 := huniq ks.toArray d' ⟨by rw [hs, hl]; simp, fun i hi => by
      have hi2 : ks.length ≤ i := by
        rcases hi with h | h
        · omega
        · simpa using h
      rw [getElem!_neg _ i (by omega), getElem!_neg _ i (by simp; omega)], by
      rw [show d'.extract 0 ks.toArray.size = d' by rw [show ks.toArray.size = d'.size by simp; omega]; simp, show ks.toArray.extract 0 ks.toArray.size = ks.toArray by simp]
      exact hperm⟩ (by rw [show ks.toArray.size = ys.length by simp; omega]; exact h2)
  rw [e2, ← e1]
theorem sorted_any (Bm b : Nat) (vs : List (Nat × Value)) (w : World) (hBm : Bm < w.heap.size) (hm : w.cell? ⟨Bm, 0, none⟩ = some (.map (some b))) (hM : MapV w b vs) (hlen : vs.length ≤ 1000000000) :
    Calls Try.prog 58 #[.func (.func 78) #[] #[.pointer (some ⟨Bm, 0, none⟩)]] w fun e w' =>
      ∃ v : Value, e = .returned v ∧ w'.ownsRow w.heap.size 24 1 v vs.length (ids (vs.map (·.1))) ∧ Below w.heap.size w w' := by
  have HR := Lib.hid hM.rise
  have HC := Lib.hid (collect_any Bm b vs w hBm hm hM hlen)
  have HN := Lib.hid hlen
  clear hBm hm hM hlen
  go_enter Try.func58, Try.ntmps58
  go_wp2_with fail
  refine HC.out.mono ?_
  rintro e w1 ⟨v, ys, rfl, hp, ho, hb⟩
  have hl : ys.length = vs.length := by have := hp.length_eq; simpa using this
  rcases ho.2 with ⟨rfl, hz⟩ | ⟨g, cap, cur, rfl, hbase, hgb, h1, h2, h3, h4⟩
  · have HO := Lib.hid ho
    have HB := Lib.hid hb
    have HZ := Lib.hid (show vs = [] from List.eq_nil_of_length_eq_zero (by omega))
    have HS := fun (x : World) => Lib.hid (sort_nil x 0)
    clear ho hb hp hz hl
    go_wp2_with (go_at_call 77; refine (HS _).out.mono ?_; rintro e w2 ⟨rfl, rfl⟩)
    go_ret
    refine ⟨_, rfl, ?_, HB.out⟩
    rw [HZ.out]
    exact World.ownsRow_nil _ _ _ _
  · obtain ⟨n, hn⟩ : ∃ n, n = ys.length := ⟨_, rfl⟩
    rw [← hn] at ho ⊢
    have hho := holds_own (by rw [ids_eU] at ho; exact ho)
    have HS := Lib.hid (sort_any w1 g 0 n cap ys.toArray (by rw [hn]; simp) hho (lt_of_heap2 hgb) (by have := HN.out; omega))
    have HO := Lib.hid ho
    have HB := Lib.hid hb
    have HP := Lib.hid hp
    have HE := Lib.hid hn
    have HBS := Lib.hid hbase
    have HL := Lib.hid hl
    clear ho hb hp hn hho hgb h1 h2 h3 h4 hbase hl
    go_wp2_with fail
    refine HS.out.mono ?_
    rintro e w2 ⟨rfl, d', hP, hSd, hA⟩
    have HQ := Lib.hid (sorted_keys (ks := vs.map (·.1)) (by have := HR.out; unfold Rise at this; rw [List.pairwise_map]; exact this) HP.out (by rw [← HE.out]; exact hP) (by rw [← HE.out]; exact hSd))
    have HW := Lib.hid (own_sorted HO.out hA (by have h1 := hP.1; rw [h1, HE.out]; simp))
    have HB2 := Lib.hid (HB.out.grown (at_grown hA) HB.out.size (fun j hj => by cases hj; exact HBS.out))
    clear hP hSd hA
    go_wp2_with fail
    go_ret
    refine ⟨_, rfl, ?_, HB2.out⟩
    have h5 := HW.out
    rw [HQ.out] at h5
    rw [← HL.out, ← HE.out]
    exact h5
end Go.Proofs.Ytogkeoainejfcaa
