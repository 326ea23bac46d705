/- TpClone, TpRdr, TpWtr: joined by program (tools/merge.py). -/
import Derived.Test.YtalpippeelomjaaZ7
namespace Go.Proofs.Ytalpippeelomjaa
open Go.RowKit
set_option linter.unusedSimpArgs false
set_option linter.unusedVariables false

set_option maxRecDepth 100000 in
set_option maxHeartbeats 1000000 in
theorem clone_some (w : World) (ad : Addr) (n c : Nat) (l : List Nat) (hp : Bytes w w.heap.size (.slice (some ad) n c) l) (hlong : n ≤ 140737488355328) :
    Calls Try.prog 66 #[.slice (some ad) n c] w fun e w' => ∃ A2 n2 c2, e = .returned (.slice A2 n2 c2) ∧ Mine w' w.heap.size A2 n2 c2 l ∧ Below w.heap.size w w' := by
  obtain ⟨i0, hi0, hz0, hz1, hz2⟩ := info_parts infoByte
  have HI := Lib.hid hi0
  have H0 := Lib.hid hz0
  have H1 := Lib.hid hz1
  have H2 := Lib.hid hz2
  have hsm := hp.small
  obtain ⟨⟨A, cc, hv, hlies, _⟩, _, _⟩ := hp
  injection hv with h1 h2 h3
  subst h1
  have hlen : (byt l).length = n * 1 := by rw [byt_length]; omega
  have HL := Lib.hid hlen
  have hbel : Below w.heap.size w (w.alloc (.cells #[] 5)) := (Below.refl _ _).alloc (Nat.le_refl _) _
  have hnews : ∀ j u, (byt l)[j]? = some u → (w.alloc (.cells #[] 5)).cell? (ad.add j) = some u := fun j u hj => (hlies.below hbel).cells j u hj
  have HN := Lib.hid hnews
  have HO : Hid (∀ v ∈ byt l, v.oneCell' = true) := one_byt l
  have hown : (w.alloc (.cells #[] 5)).ownsRow w.heap.size 5 1 (.slice (some ⟨w.heap.size, 0, none⟩) 0 0) 0 [] :=
    ⟨rfl, .inr ⟨w.heap.size, 0, #[], rfl, Nat.le_refl _, Go.heap_alloc_new w _, Nat.le_refl _, by simp, rfl, rfl⟩⟩
  have HW := Lib.hid hown
  have Hbel := Lib.hid hbel
  have HS := Lib.hid hsm
  have hnil : ∀ W : World, (binOp .eql 43 (.slice (some ad) n c) (.slice none 0 0)).run Try.prog W = .ok (.bool false) W := fun W => by
    rw [Lib.run_eql_slice_nil W 43 5 _ n c 0 0 Try.underlying43]
    rfl
  clear hi0 hz0 hz1 hz2 hlen hnews hown hbel hlies hsm h2 h3
  go_enter Try.func66, Try.ntmps66
  go_wp2_with (at_builtin; refine wpList_append_own _ rfl _ _ 43 rfl w.heap.size 5 i0 (.int .u8 0) 1 1 Try.underlying43 HI.out H0.out H1.out H2.out ?a1 (by decide) _ 0 [] rfl HW.out ad n c (byt l) rfl HL.out HN.out HO.out ?a2 ?a3 ?a4 ?_)
  case a1 => rfl
  case a2 => unfold maxLen; omega
  case a3 => omega
  case a4 => exact Hbel.out.size
  intro v' w2 hown2 hg2 _
  have hb2 := Hbel.out.grown hg2 Hbel.out.size (fun g hg => by
    have e : w.heap.size = g := by simpa [Value.ownBlock] using hg
    omega)
  have hM := Mine.of_own (l := l) (v := v') (base := w.heap.size) (w := w2) (by
    have h := hown2
    have e : n = l.length := by have := HL.out; rw [byt_length] at this; omega
    rw [e] at h
    exact h) HS.out
  obtain ⟨A2, n2, c2, rfl, hM⟩ := hM
  have H3 := Lib.hid hM
  have H4 := Lib.hid hb2
  clear hown2 hg2 hb2 hnil hM
  go_wp2
  go_ret
  exact ⟨A2, n2, c2, rfl, H3.out, H4.out⟩
set_option maxHeartbeats 1000000 in
theorem clone_none (w : World) : Calls Try.prog 66 #[.slice none 0 0] w fun e w' => e = .returned (.slice none 0 0) ∧ w = w' := by
  have hnil : ∀ W : World, (binOp .eql 43 (.slice none 0 0) (.slice none 0 0)).run Try.prog W = .ok (.bool true) W := fun W => by
    rw [Lib.run_eql_slice_nil W 43 5 _ 0 0 0 0 Try.underlying43]
    rfl
  go_enter Try.func66, Try.ntmps66
  go_wp2
  go_ret
  exact ⟨rfl, rfl⟩
theorem tp_clone_any (w : World) (v : Value) (l : List Nat) (hp : Bytes w w.heap.size v l) (hlong : l.length ≤ 140737488355328) :
    Calls Try.prog 66 #[v] w fun e w' => ∃ A2 n2 c2, e = .returned (.slice A2 n2 c2) ∧ Mine w' w.heap.size A2 n2 c2 l ∧ Below w.heap.size w w' := by
  obtain ⟨A, c, rfl, hl, hc, hn⟩ := hp.form
  rcases A with _ | ad
  · have hl0 : l = [] := by
      have h1 := hl.empty
      rw [← List.length_eq_zero_iff, ← byt_length, h1]
      rfl
    subst hl0
    obtain rfl := hn rfl
    exact (clone_none w).mono fun e w' ⟨he, hw⟩ => ⟨none, 0, 0, he, ⟨World.ownsRow_nil _ _ _ _, rfl, by simp⟩, by rw [← hw]; exact Below.refl _ _⟩
  · exact clone_some w ad _ c l hp hlong
end Go.Proofs.Ytalpippeelomjaa
namespace Go.Proofs.Ytalpippeelomjaa
open Go.RowKit
set_option linter.unusedSimpArgs false
set_option linter.unusedVariables false

def NumbR (w : World) (n : Nat) (l : List Nat) (t i : Value) : Prop :=
  ∃ k m : Nat, k ≤ n ∧ k ≤ 9 ∧ i = .int .i64 (k : Int) ∧ t = .int .u64 (m : Int) ∧ m < 128 ^ k ∧ scan (l.drop k) k m = numOf l
theorem pow128_le {k : Nat} (h : k ≤ 9) : 128 ^ k ≤ 9223372036854775808 := by
  have := Nat.pow_le_pow_right (n := 128) (by omega) h
  omega
theorem andNot_more (b : Nat) (hb : b < 256) : bits .andNot .u8 (b : Int) 128 = ((b % 128 : Nat) : Int) := by
  have h := u8_andNot_nat b 128 hb (by decide)
  rw [show ((128 : Nat) : Int) = 128 from rfl] at h
  rw [h]
  congr 1
  exact nat_mask7 b
theorem scan_cons {l : List Nat} {k b : Nat} (h : l[k]? = some b) (n : Nat) : scan (l.drop k) k n = if k = 9 ∧ 1 < b then (0, 0) else if 128 ≤ b then scan (l.drop (k + 1)) (k + 1) (n + b % 128 * 128 ^ k) else if b = 0 ∧ 0 < k then (0, 0) else (n + b % 128 * 128 ^ k, k + 1) := by
  obtain ⟨hk, hb⟩ := List.getElem?_eq_some_iff.1 h
  rw [List.drop_eq_getElem_cons hk, hb, scan]
theorem or_at {k m x : Nat} (hk : k ≤ 9) (hm : m < 128 ^ k) (hx : x * 128 ^ k < 18446744073709551616) : bits .or .u64 (m : Int) (IntKind.u64.wrap ((x : Int) * 2 ^ (7 * k))) = ((m + x * 128 ^ k : Nat) : Int) := by
  have e1 : (2 : Nat) ^ (7 * k) = 128 ^ k := by rw [Nat.pow_mul]
  have e2 : ((x : Int) * 2 ^ (7 * k)) = ((x * 128 ^ k : Nat) : Int) := by
    rw [← e1]
    simp
  have h9 := pow128_le hk
  rw [e2, IntKind.wrap_u64, Int.emod_eq_of_lt (by omega) (by omega), u64_or_nat _ _ (by omega) hx, Nat.or_comm]
  rw [nat_join (7 * k) (x * 128 ^ k) m (by rw [e1]; exact Nat.mul_mod_left _ _) (by rw [e1]; exact hm)]
  congr 1
  omega
theorem ret_num {a b : Int} {x y : Nat × Nat} (hx : x = y) (h1 : a = (y.1 : Int)) (h2 : b = (y.2 : Int)) : Ending.returned (.tuple #[.int .u64 a, .int .i64 b]) = .returned (.tuple #[.int .u64 (x.1 : Int), .int .i64 (x.2 : Int)]) := by rw [hx, h1, h2]
set_option maxRecDepth 100000 in
set_option maxHeartbeats 2000000 in
theorem number_any (w : World) (v : Value) (l : List Nat) (hp : Bytes w w.heap.size v l) :
    Calls Try.prog 98 #[v] w fun e w' => e = .returned (.tuple #[.int .u64 ((numOf l).1 : Int), .int .i64 ((numOf l).2 : Int)]) ∧ w = w' := by
  obtain ⟨⟨A, c, rfl, hlies, _⟩, hsm, hlong⟩ := hp
  unfold maxLen at hlong
  have HL := Lib.hid hlies
  have HS := Lib.hid hsm
  clear hlies hsm
  obtain ⟨n, hn⟩ : ∃ n, n = l.length := ⟨_, rfl⟩
  rw [← hn] at hlong ⊢
  have HN := Lib.hid hn
  clear hn
  go_enter Try.func98, Try.ntmps98
  go_wp2
  go_loop [4, 9] (fun t i => NumbR w n l t i) (fun _ i => n - (intOf i).toNat)
  case atStart => exact ⟨0, 0, by omega, by omega, rfl, rfl, by simp, rfl⟩
  case round =>
    obtain ⟨k, m, hk, hk9, rfl, rfl, hm, hsc⟩ := hrel
    have HSC := Lib.hid hsc
    have HM := Lib.hid hm
    clear hsc hm
    by_cases hlt : k < n
    · obtain ⟨b, hb1⟩ : ∃ b, l[k]? = some b := ⟨_, List.getElem?_eq_getElem (by rw [← HN.out]; exact hlt)⟩
      have hb2 : b < 256 := HS.out b (List.mem_of_getElem? hb1)
      obtain ⟨ad, hA, hbb, hc⟩ := HL.out k (.int .u8 (b : Int)) (by rw [byt_at, hb1]; rfl)
      subst hA
      have hsc := HSC.out
      rw [scan_cons hb1] at hsc
      have HE := Lib.hid hsc
      have han := andNot_more b hb2
      rw [show ((b % 128 : Nat) : Int) = (b : Int) % 128 by omega] at han
      clear hb1 hbb hsc HSC
      by_cases h9 : k = 9
      · have hk9e : (k : Int) = 9 := by omega
        have hc9 := hc
        rw [h9] at hc9
        unfold Addr.add at hc9
        rw [if_neg (by decide)] at hc9
        by_cases hb : 1 < b
        · have hx : decide (1 < (b : Int)) = true := decide_eq_true (by omega)
          have HH := Lib.hid h9
          clear h9
          go_wp2
          go_ret2
          exact ⟨ret_num (y := (0, 0)) (HE.out.symm.trans (if_pos ⟨HH.out, hb⟩)) rfl rfl, rfl⟩
        · have hor := or_at (k := k) (m := m) (x := b) (by omega) HM.out (by rw [h9]; omega)
          have hw : IntKind.u64.wrap ((b : Int) * 2 ^ (7 * k)) = (b : Int) * 9223372036854775808 := by
            rw [h9, IntKind.wrap_u64]
            omega
          rw [hw] at hor
          have HR := Lib.hid hor
          have HH := Lib.hid h9
          clear hor hw h9
          by_cases hb0 : b = 0
          · have hbe : (b : Int) = 0 := by omega
            have HB := Lib.hid hb0
            clear hb0
            go_wp2
            go_ret2
            refine ⟨ret_num (y := (0, 0)) (HE.out.symm.trans ?_) rfl rfl, rfl⟩
            rw [if_neg (by omega), if_neg (by omega), if_pos ⟨HB.out, by omega⟩]
          · have hbe : (b : Int) = 1 := by omega
            go_wp2
            go_ret2
            refine ⟨ret_num (y := (m + b % 128 * 128 ^ k, k + 1)) (HE.out.symm.trans ?_) ?_ ?_, rfl⟩
            · rw [if_neg (by omega), if_neg (by omega), if_neg (by omega)]
            · have h := HR.out
              rw [hbe] at h
              rw [show b % 128 = b by omega]
              exact h
            · show (10 : Int) = ((k + 1 : Nat) : Int)
              have := HH.out
              omega
      · have h9' : ((k : Int) == 9) = false := by rw [beq_eq_false_iff_ne]; omega
        have hp9 : 128 ^ (k + 1) ≤ 9223372036854775808 := pow128_le (by omega)
        have hxs : b % 128 * 128 ^ k < 128 ^ (k + 1) := by
          rw [Nat.pow_succ, Nat.mul_comm]
          exact Nat.mul_lt_mul_of_pos_left (Nat.mod_lt _ (by omega)) (pow_pos128 k)
        have hor := or_at (k := k) (m := m) (x := b % 128) hk9 HM.out (by omega)
        rw [show ((b % 128 : Nat) : Int) = (b : Int) % 128 by omega] at hor
        have hnx : m + b % 128 * 128 ^ k < 128 ^ (k + 1) := by
          have h1 := HM.out
          have h2 : (b % 128 + 1) * 128 ^ k ≤ 128 * 128 ^ k := Nat.mul_le_mul_right _ (by omega)
          rw [Nat.add_mul] at h2
          rw [Nat.pow_succ, Nat.mul_comm (128 ^ k)]
          omega
        have HX := Lib.hid hnx
        clear hp9 hxs hnx
        by_cases hb : 128 ≤ b
        · go_wp2
          go_round
          case rel =>
            refine ⟨k + 1, m + b % 128 * 128 ^ k, by omega, by omega, by go_num, rfl, HX.out, ?_⟩
            rw [← HE.out, if_neg (by omega), if_pos hb]
          case measure => simp [intOf]; omega
        · by_cases hz : b = 0 ∧ 0 < k
          · obtain ⟨hb0, h0⟩ := hz
            have hbe : (b : Int) = 0 := by omega
            have HB := Lib.hid hb0
            clear hor hb0
            go_wp2
            go_ret2
            refine ⟨ret_num (y := (0, 0)) (HE.out.symm.trans ?_) rfl rfl, rfl⟩
            rw [if_neg (by omega), if_neg (by omega), if_pos ⟨HB.out, h0⟩]
          · have HR := Lib.hid hor
            have HZ := Lib.hid hz
            clear hz
            by_cases hb0 : b = 0
            · have hk0 : k = 0 := by have := HZ.out; omega
              have hm0 : m = 0 := by have := HM.out; rw [hk0] at this; simp at this; omega
              have hbe : (b : Int) = 0 := by omega
              have hke : (k : Int) = 0 := by omega
              have hme : (m : Int) = 0 := by omega
              have hz64 : bits .or .u64 0 0 = 0 := by decide
              have hc0 := hc
              rw [hk0, Addr.add_zero'] at hc0
              have HK := Lib.hid hk0
              have HB := Lib.hid hb0
              have HM0 := Lib.hid hm0
              clear hor hk0 hb0 hm0
              go_wp2
              go_ret2
              refine ⟨ret_num (y := (0, 1)) (HE.out.symm.trans ?_) rfl rfl, rfl⟩
              rw [HB.out, HK.out, HM0.out]
              rfl
            · have hb0' : ((b : Int) == 0) = false := by rw [beq_eq_false_iff_ne]; omega
              go_wp2
              go_ret2
              refine ⟨ret_num (y := (m + b % 128 * 128 ^ k, k + 1)) (HE.out.symm.trans ?_) rfl (by simp), rfl⟩
              rw [if_neg (by omega), if_neg (by omega), if_neg HZ.out]
    · go_wp2
      go_ret2
      refine ⟨ret_num (y := (0, 0)) (HSC.out.symm.trans ?_) rfl rfl, rfl⟩
      rw [List.drop_of_length_le (by rw [← HN.out]; omega), scan]
end Go.Proofs.Ytalpippeelomjaa
namespace Go.Proofs.Ytalpippeelomjaa
open Go.RowKit
set_option linter.unusedSimpArgs false
set_option linter.unusedVariables false

/-- The Writer in block g has written l, in a row of the call's own. -/
structure Wtr (w : World) (base g : Nat) (v : Value) (l : List Nat) : Prop where
  st : w.heap[g]? = some (.cells #[v] 111 (0, 0))
  own : w.ownsRow base 5 1 v l.length (byt l)
  small : ∀ b ∈ l, b < 256
theorem Wtr.ne {w : World} {base g : Nat} {v : Value} {l : List Nat} (h : Wtr w base g v l) : v.ownBlock ≠ some g := own_ne h.own h.st (by decide)
theorem Wtr.keep {w w' : World} {base g : Nat} {v : Value} {l : List Nat} (h : Wtr w base g v l) (hk : ∀ k, k = g ∨ v.ownBlock = some k → w'.heap[k]? = w.heap[k]?) : Wtr w' base g v l :=
  ⟨(hk g (.inl rfl)).trans h.st, ownsRow_keep h.own fun k e => hk k (.inr e), h.small⟩
theorem Wtr.below {w w' : World} {base g : Nat} {v : Value} {l : List Nat} (h : Wtr w base g v l) (hb : Below w.heap.size w w') : Wtr w' base g v l :=
  h.keep fun k hk => hb.block k (hk.elim (fun e => e ▸ lt_of_heap h.st) fun e => (own_block_lt h.own e).2)
/-- Behind an append and the store of its row. -/
theorem Wtr.put {w1 : World} {base g : Nat} {v v' : Value} {l m : List Nat} (hg : w1.heap[g]? = some (.cells #[v] 111 (0, 0))) (hown : w1.ownsRow base 5 1 v' (l.length + m.length) (byt l ++ byt m)) (hs : ∀ b ∈ l, b < 256) (hm : ∀ b ∈ m, b < 256) :
    Wtr (w1.setCell ⟨g, 0, none⟩ v') base g v' (l ++ m) := by
  refine ⟨one_setCell hg, ?_, small_append hs hm⟩
  rw [byt_append, List.length_append]
  exact ownsRow_setCell_other hown (a := ⟨g, 0, none⟩) (own_ne hown hg (by decide)) _
/-- What such an append has changed. -/
theorem chg_put {w y w1 : World} {g : Nat} {v : Value} (hb : Below w.heap.size w y) (hg : y.grownBy w1 v.ownBlock) (u : Value) : Chg w (w1.setCell ⟨g, 0, none⟩ u) g v.ownBlock :=
  ((Chg.of_below hb g v.ownBlock).trans (Goes.refl _ _) (Chg.of_grown hg g)).trans (Goes.refl _ _) (Chg.set w1 g 0 u _)

def TpNumR (W : World) (base g : Nat) (v0 : Value) (l : List Nat) (N : Nat) (t : Value) (wr : World) : Prop :=
  ∃ (n : Nat) (v : Value) (d : List Nat), t = .int .u64 (n : Int) ∧ n < 18446744073709551616 ∧ Wtr wr base g v d ∧ Chg W wr g v0.ownBlock ∧ Goes W v0.ownBlock v.ownBlock ∧ d ++ num n = l ++ num N
/-- What a Writer's method leaves. -/
def Wrote (W : World) (base g : Nat) (v0 : Value) (l : List Nat) (wr : World) : Prop := ∃ v, Wtr wr base g v l ∧ Chg W wr g v0.ownBlock ∧ Goes W v0.ownBlock v.ownBlock
set_option maxRecDepth 10000 in
theorem or_more (n : Nat) : bits .or .u8 ((n % 256 : Nat) : Int) 128 = ((n % 128 + 128 : Nat) : Int) := by
  have h : ∀ b : Fin 256, b.val ||| 128 = b.val % 128 + 128 := by decide
  have h1 := h ⟨n % 256, Nat.mod_lt _ (by decide)⟩
  have h2 := u8_or_nat (n % 256) 128 (Nat.mod_lt _ (by decide)) (by decide)
  rw [show ((128 : Nat) : Int) = 128 from rfl] at h2
  rw [h2, h1]
  congr 1
  show n % 256 % 128 + 128 = n % 128 + 128
  omega

theorem row_slice {w : World} {base n size : Nat} {t : TypeId} {v : Value} {xs : List Value} (h : w.ownsRow base t size v n xs) : ∃ A n c, v = .slice A n c := by
  rcases h.2 with ⟨rfl, _⟩ | ⟨g, cap, cur, rfl, _⟩
  · exact ⟨_, _, _, rfl⟩
  · exact ⟨_, _, _, rfl⟩
/-- Behind an append and its store. -/
theorem wrote_some {W wr y w1 : World} {base g : Nat} {v0 u v' : Value} {d m : List Nat} (hw : Wtr wr base g u d) (hc : Chg W wr g v0.ownBlock) (hg : Goes W v0.ownBlock u.ownBlock) (hb : ∀ b ∈ m, b < 256)
    (hy : Below wr.heap.size wr y) (hown : w1.ownsRow base 5 1 v' (d.length + m.length) (byt d ++ byt m)) (hgr : y.grownBy w1 u.ownBlock) {k : Nat} (hat : v'.ownBlock = u.ownBlock ∨ v'.ownBlock = some k) (hk : wr.heap.size ≤ k) :
    Wtr (w1.setCell ⟨g, 0, none⟩ v') base g v' (d ++ m) ∧ Chg W (w1.setCell ⟨g, 0, none⟩ v') g v0.ownBlock ∧ Goes W v0.ownBlock v'.ownBlock ∧ w1.cell? ⟨g, 0, none⟩ = some u ∧ w1.frozen? ⟨g, 0, none⟩ = false := by
  have hlt := lt_of_heap hw.st
  have hst : w1.heap[g]? = some (.cells #[u] 111 (0, 0)) := (hgr.block g (Nat.lt_of_lt_of_le hlt hy.size) (fun e => hw.ne e.symm)).trans ((hy.block g hlt).trans hw.st)
  refine ⟨Wtr.put hst hown hw.small hb, hc.trans hg (chg_put hy hgr _), hg.trans hc.size ?_, cell_of_one hst, free_of_one hst⟩
  rcases hat with e | e
  · exact .inl e
  · exact .inr ⟨_, e, hk⟩
theorem wrote_one {W wr y w1 : World} {base g b : Nat} {v0 u v' : Value} {d : List Nat} (hw : Wtr wr base g u d) (hc : Chg W wr g v0.ownBlock) (hg : Goes W v0.ownBlock u.ownBlock) (hb : b < 256)
    (hy : Below wr.heap.size wr y) (hown : w1.ownsRow base 5 1 v' (d.length + 1) (byt d ++ [.int .u8 (b : Int)])) (hgr : y.grownBy w1 u.ownBlock) {k : Nat} (hat : v'.ownBlock = u.ownBlock ∨ v'.ownBlock = some k) (hk : wr.heap.size ≤ k) :
    Wtr (w1.setCell ⟨g, 0, none⟩ v') base g v' (d ++ [b]) ∧ Chg W (w1.setCell ⟨g, 0, none⟩ v') g v0.ownBlock ∧ Goes W v0.ownBlock v'.ownBlock ∧ w1.cell? ⟨g, 0, none⟩ = some u ∧ w1.frozen? ⟨g, 0, none⟩ = false :=
  wrote_some (m := [b]) hw hc hg (by simpa using hb) hy hown hgr hat hk

set_option maxRecDepth 100000 in
set_option maxHeartbeats 2000000 in
theorem wnum_any (w : World) (base g N : Nat) (v : Value) (l : List Nat) (hN : N < 18446744073709551616) (hw : Wtr w base g v l) (hl : l.length ≤ 1048576) (hbase : base ≤ w.heap.size) :
    Calls Try.prog 84 #[.pointer (some ⟨g, 0, none⟩), .int .u64 (N : Int)] w fun e w' => e = .returned (.pointer (some ⟨g, 0, none⟩)) ∧ Wrote w base g v (l ++ num N) w' := by
  obtain ⟨i0, hi0, hz0, hz1, hz2⟩ := info_parts infoByte
  have HI := Lib.hid hi0
  have H0 := Lib.hid hz0
  have H1 := Lib.hid hz1
  have H2 := Lib.hid hz2
  have HW := Lib.hid hw
  have HN := Lib.hid hN
  clear hi0 hz0 hz1 hz2 hw hN
  go_enter Try.func84, Try.ntmps84
  go_wp2
  go_loopw [1] (fun t wr => TpNumR w base g v l N t wr) (fun t _ => (intOf t).toNat)
  case atStart => exact ⟨N, v, l, rfl, HN.out, HW.out, Chg.refl _ _ _, Goes.refl _ _, rfl⟩
  case round =>
    obtain ⟨n, u, d, rfl, hn, hw1, hc1, hg1, he⟩ := hrel
    have hcell := cell_of_one hw1.st
    have hfree := free_of_one hw1.st
    have hdl : d.length ≤ l.length + 10 := by
      have h1 := congrArg List.length he
      have h2 := num_length64 HN.out
      rw [List.length_append, List.length_append] at h1
      omega
    have HO := Lib.hid hw1
    have HC := Lib.hid hc1
    have HG := Lib.hid hg1
    have HE := Lib.hid he
    have hbw : base ≤ wr.heap.size := Nat.le_trans hbase hc1.size
    clear hw1 hc1 hg1 he
    by_cases h128 : n < 128
    · have hmod : (n : Int) % 256 = (n : Int) := by omega
      go_wp2_with (at_builtin; refine wpList_append_own_at _ rfl (.tmp 27) (.tmp 30) 43 rfl base 5 i0 (.int .u8 0) 1 1 Try.underlying43 HI.out H0.out H1.out H2.out rfl (by decide) _ _ _ rfl (World.ownsRow.alloc HO.out.own _) ⟨_, 0, none⟩ 1 1 [.int .u8 (n : Int)] rfl rfl ?c1 ?c2 ?c3 ?c4 ?c5 ?_)
      case c1 => exact cell_one_new _ _
      case c2 => simp [Value.oneCell']
      case c3 => unfold maxLen; omega
      case c4 => omega
      case c5 => simp; omega
      intro v' w1 hown1 hg1 _ hat1
      obtain ⟨A1, n1, k1, rfl⟩ := row_slice hown1
      obtain ⟨h1, h2, h3, h4, h5⟩ := wrote_one HO.out HC.out HG.out (b := n) (by omega) ((Below.refl _ _).alloc (Nat.le_refl _) _) hown1 hg1 hat1 (by omega)
      have K1 := Lib.hid h1
      have K2 := Lib.hid h2
      have K3 := Lib.hid h3
      clear h1 h2 h3 hown1 hg1 hat1
      go_wp2
      go_ret
      refine ⟨rfl, _, ?_, K2.out, K3.out⟩
      rw [← HE.out, num_lt h128]
      exact K1.out
    · have hor := or_more n
      have hcast : ((n % 256 : Nat) : Int) = (n : Int) % 256 := by omega
      rw [hcast] at hor
      clear hcast
      go_wp2_with (at_builtin; refine wpList_append_own_at _ rfl (.tmp 13) (.tmp 17) 43 rfl base 5 i0 (.int .u8 0) 1 1 Try.underlying43 HI.out H0.out H1.out H2.out rfl (by decide) _ _ _ rfl (World.ownsRow.alloc HO.out.own _) ⟨_, 0, none⟩ 1 1 [.int .u8 ((n % 128 + 128 : Nat) : Int)] rfl rfl ?d1 ?d2 ?d3 ?d4 ?d5 ?_)
      case d1 => exact cell_one_new _ _
      case d2 => simp [Value.oneCell']
      case d3 => unfold maxLen; omega
      case d4 => omega
      case d5 => simp; omega
      intro v' w1 hown1 hg1 _ hat1
      obtain ⟨A1, n1, k1, rfl⟩ := row_slice hown1
      obtain ⟨h1, h2, h3, h4, h5⟩ := wrote_one HO.out HC.out HG.out (b := n % 128 + 128) (by omega) ((Below.refl _ _).alloc (Nat.le_refl _) _) hown1 hg1 hat1 (by omega)
      have K1 := Lib.hid h1
      have K2 := Lib.hid h2
      have K3 := Lib.hid h3
      clear h1 h2 h3 hown1 hg1 hat1 hor
      go_wp2
      go_roundw
      case rel => exact ⟨n / 128, _, d ++ [n % 128 + 128], by go_num, by omega, K1.out, K2.out, K3.out, by rw [← HE.out, num_ge h128]; simp⟩
      case measure => simp [intOf]; omega

theorem not64 (x : Nat) (h : x < 18446744073709551616) : bits .xor .u64 IntKind.u64.max (x : Int) = ((18446744073709551615 - x : Nat) : Int) := by
  have h1 := u64_xor_nat 18446744073709551615 x (by decide) h
  rw [xor_ones64 x h] at h1
  exact h1
theorem zig_neg {n : Int} (h1 : -9223372036854775808 ≤ n) (h0 : n < 0) : bits .xor .u64 IntKind.u64.max (IntKind.u64.wrap (IntKind.u64.wrap n * 2)) = ((zig n : Nat) : Int) := by
  have e : IntKind.u64.wrap (IntKind.u64.wrap n * 2) = ((2 * n + 18446744073709551616).toNat : Int) := by
    rw [IntKind.wrap_u64, IntKind.wrap_u64]
    omega
  rw [e, not64 _ (by omega)]
  unfold zig
  rw [if_pos h0]
  omega
theorem zig_pos {n : Int} (h0 : ¬ n < 0) : n * 2 = ((zig n : Nat) : Int) := by
  unfold zig
  rw [if_neg h0]
  omega
set_option maxRecDepth 100000 in
set_option maxHeartbeats 1000000 in
theorem wtext_any (w : World) (base g : Nat) (s : ByteArray) (v : Value) (l : List Nat) (hs : s.size ≤ 1048576) (hw : Wtr w base g v l) (hl : l.length ≤ 1048576) (hbase : base ≤ w.heap.size) :
    Calls Try.prog 64 #[.pointer (some ⟨g, 0, none⟩), .string s] w fun e w' => e = .returned (.pointer (some ⟨g, 0, none⟩)) ∧ Wrote w base g v (l ++ (num s.size ++ str s)) w' := by
  have HC := hide (wnum_any w base g s.size v l (by omega) hw hl hbase)
  have HS := hide (num_length64 (n := s.size) (by omega))
  obtain ⟨i0, hi0, hz0, hz1, hz2⟩ := info_parts infoByte
  have HI := Lib.hid hi0
  have H0 := Lib.hid hz0
  have H1 := Lib.hid hz1
  have H2 := Lib.hid hz2
  clear hi0 hz0 hz1 hz2 hw
  have hcv : (s.size : Int) % 18446744073709551616 = (s.size : Int) := by omega
  go_enter Try.func64, Try.ntmps64
  go_wp2_with (first
    | (go_at_call 84; (with_reducible refine (unhide HC).mono ?_); rintro e w1 ⟨rfl, v1, hW1, hC1, hG1⟩; go_loud (
       have hcell := cell_of_one hW1.st;
       have hlen := HS.out;
       have hll : (l ++ num s.size).length ≤ 2097152 := by rw [List.length_append]; omega;
       have KL := Lib.hid hll;
       have KW := Lib.hid hW1;
       have KC := Lib.hid hC1;
       have KG := Lib.hid hG1;
       clear hW1 hC1 hG1 hlen hll))
    | (at_builtin; refine wpList_append_str rfl (.tmp 16) (.tmp 17) 43 9 rfl base 5 i0 Try.underlying43 Try.underlying9 HI.out H0.out H1.out H2.out _ _ _ rfl KW.out.own s rfl ?c1 ?c2 ?_))
  case c1 => have := KL.out; omega
  case c2 => exact Nat.le_trans hbase KC.out.size
  intro v' w2 hown2 hg2 hat2
  obtain ⟨A1, n1, k1, rfl⟩ := row_slice hown2
  obtain ⟨j1, j2, j3, j4, j5⟩ := wrote_some KW.out KC.out KG.out (str_small s) (Below.refl _ _) (by rw [str_length, List.length_append]; exact hown2) hg2 hat2 (Nat.le_refl _)
  have K1 := Lib.hid j1
  have K2 := Lib.hid j2
  have K3 := Lib.hid j3
  clear j1 j2 j3 hown2 hg2 hat2 hcell
  go_wp2
  go_ret
  refine ⟨rfl, _, ?_, K2.out, K3.out⟩
  rw [← List.append_assoc]
  exact K1.out
def bit (b : Bool) : Nat := if b then 1 else 0
set_option maxRecDepth 100000 in
set_option maxHeartbeats 1000000 in
theorem wbytes_any (w : World) (base g : Nat) (v : Value) (l : List Nat) (hw : Wtr w base g v l) (hl : l.length ≤ 1048576) :
    Calls Try.prog 65 #[.pointer (some ⟨g, 0, none⟩)] w fun e w' => ∃ A n c, e = .returned (.slice A n c) ∧ Mine w' w.heap.size A n c l ∧ Below w.heap.size w w' := by
  have hcell := cell_of_one hw.st
  have HC := hide (tp_clone_any w v l (Own.bytes hw.own hw.small) (by omega))
  obtain ⟨A1, n1, k1, rfl⟩ := row_slice hw.own
  clear hw
  go_enter Try.func65, Try.ntmps65
  go_wp2_with (go_at_call 66; (with_reducible refine (unhide HC).mono ?_); rintro e w1 ⟨A, n, c, rfl, hM, hB⟩)
  go_ret
  exact ⟨A, n, c, rfl, hM, hB⟩
/-- Over a nil Writer. -/
theorem wnum_nil (w : World) (n : Int) : Calls Try.prog 84 #[.pointer none, .int .u64 n] w fun e w' => e = .returned (.pointer none) ∧ w = w' := by
  go_enter Try.func84, Try.ntmps84
  go_wp2
  go_ret
  exact ⟨rfl, rfl⟩
theorem wtext_nil (w : World) (s : ByteArray) : Calls Try.prog 64 #[.pointer none, .string s] w fun e w' => e = .returned (.pointer none) ∧ w = w' := by
  go_enter Try.func64, Try.ntmps64
  go_wp2
  go_ret
  exact ⟨rfl, rfl⟩
theorem wbytes_nil (w : World) : Calls Try.prog 65 #[.pointer none] w fun e w' => e = .returned (.slice none 0 0) ∧ w = w' := by
  go_enter Try.func65, Try.ntmps65
  go_wp2
  go_ret
  exact ⟨rfl, rfl⟩
end Go.Proofs.Ytalpippeelomjaa
