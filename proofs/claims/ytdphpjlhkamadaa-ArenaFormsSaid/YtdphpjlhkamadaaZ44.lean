/- ARdM, ARdB, ARdC, AParse: joined by program (tools/merge.py). -/
import Derived.Test.YtdphpjlhkamadaaZ42
import Derived.Test.YtdphpjlhkamadaaAWrite
import Derived.Test.YtdphpjlhkamadaaANRead
import Derived.Test.YtdphpjlhkamadaaZ10
namespace Go.Proofs.Ytdphpjlhkamadaa
open Go.RowKit
set_option linter.unusedSimpArgs false
set_option linter.unusedVariables false
theorem takeNum_num {m M : Nat} (r : List Nat) (h1 : m < 18446744073709551616) (h2 : m ≤ M) : takeNum (num m ++ r) M = (m, r, true) := by
  unfold takeNum
  rw [numOf_num h1]
  have hp := num_pos m
  rw [if_neg (by show ¬ ((num m).length = 0 ∨ M < m); omega)]
  show (m, (num m ++ r).drop (num m).length, true) = _
  rw [List.drop_left]
theorem rNum_num {m M : Nat} (r : List Nat) (h1 : m < 18446744073709551616) (h2 : m ≤ M) : rNum M (false, num m ++ r) = (m, (false, r)) := by
  unfold rNum
  show ((takeNum (num m ++ r) M).1, (false || !(takeNum (num m ++ r) M).2.2, (takeNum (num m ++ r) M).2.1)) = _
  rw [takeNum_num r h1 h2]
  rfl
theorem rByte_cons (b : Nat) (r : List Nat) : rByte (false, b :: r) = (b, (false, r)) := rfl
theorem rText_str {M : Nat} (s : ByteArray) (r : List Nat) (h : s.size ≤ M) (hM : M < 18446744073709551616) : rText M (false, num s.size ++ str s ++ r) = (s, (false, r)) := by
  unfold rText
  show (txt (takeText (num s.size ++ str s ++ r) M).1, (false || !(takeText (num s.size ++ str s ++ r) M).2.2, (takeText (num s.size ++ str s ++ r) M).2.1)) = _
  have h1 : takeText (num s.size ++ str s ++ r) M = (str s, r, true) := by
    unfold takeText
    rw [List.append_assoc, takeNum_num (str s ++ r) (by omega) h]
    dsimp only
    rw [if_neg (by rw [List.length_append, str_length]; omega)]
    have h2 : s.size = (str s).length := (str_length s).symm
    rw [h2, List.take_left, List.drop_left]
  rw [h1, txt_str]
  rfl
theorem kidsS_shift : ∀ (k : Nat) (s : RS), kidsS (k + 1) s = kidsS k (rNum MX s).2
  | 0, _ => rfl
  | k + 1, s => by
    show (rNum MX (kidsS (k + 1) s)).2 = (rNum MX (kidsS k (rNum MX s).2)).2
    rw [kidsS_shift k s]
theorem kidV_shift (k : Nat) (s : RS) : kidV s (k + 1) = kidV (rNum MX s).2 k := by
  unfold kidV
  rw [kidsS_shift]
theorem kids_again : ∀ (ks : List Nat) (r : List Nat), (∀ k ∈ ks, k < 18446744073709551616) → kidsS ks.length (false, ks.flatMap num ++ r) = (false, r) ∧ (List.range ks.length).map (kidV (false, ks.flatMap num ++ r)) = ks
  | [], r, _ => ⟨rfl, rfl⟩
  | x :: ks, r, h => by
    have hx := h x (by simp)
    obtain ⟨h1, h2⟩ := kids_again ks r fun k hk => h k (by simp [hk])
    have e : (x :: ks).flatMap num ++ r = num x ++ (ks.flatMap num ++ r) := by rw [List.flatMap_cons, List.append_assoc]
    have hn := rNum_num (M := MX) (ks.flatMap num ++ r) hx (by unfold MX; omega)
    rw [e, List.length_cons]
    refine ⟨?_, ?_⟩
    · rw [kidsS_shift, hn]; exact h1
    · rw [List.range_succ_eq_map, List.map_cons, List.map_map]
      congr 1
      · show (rNum MX (false, num x ++ (ks.flatMap num ++ r))).1 = x
        rw [hn]
      · have h3 : (kidV (false, num x ++ (ks.flatMap num ++ r)) ∘ Nat.succ) = kidV (false, ks.flatMap num ++ r) := by
          funext k
          show kidV (false, num x ++ (ks.flatMap num ++ r)) (k + 1) = _
          rw [kidV_shift, hn]
        rw [h3]; exact h2
theorem node_again {n : Nd} (r : List Nat) (hok : NdOk n) (hn : n.name.size ≤ 64) (hk : ∀ k ∈ n.kids, k < 18446744073709551616) (hkl : n.kids.length < 18446744073709551616) : nodeN (false, nodeB n ++ r) = n ∧ nodeS (false, nodeB n ++ r) = (false, r) := by
  have e : nodeB n ++ r = n.kind :: (num n.name.size ++ str n.name ++ (num (zig n.num) ++ (n.typ :: (num n.ref ++ (num n.kids.length ++ (n.kids.flatMap num ++ r)))))) := by
    unfold nodeB headB
    simp [List.append_assoc]
  have hz : zig n.num < 18446744073709551616 := zig_lt hok.num.1 (by have := hok.num.2; omega)
  have p1 : s1R (false, nodeB n ++ r) = (false, num n.name.size ++ str n.name ++ (num (zig n.num) ++ (n.typ :: (num n.ref ++ (num n.kids.length ++ (n.kids.flatMap num ++ r)))))) := by unfold s1R; rw [e, rByte_cons]
  have p2 : rText 64 (s1R (false, nodeB n ++ r)) = (n.name, (false, num (zig n.num) ++ (n.typ :: (num n.ref ++ (num n.kids.length ++ (n.kids.flatMap num ++ r)))))) := by rw [p1, rText_str _ _ hn (by omega)]
  have p3 : rNum MX (s2R (false, nodeB n ++ r)) = (zig n.num, (false, n.typ :: (num n.ref ++ (num n.kids.length ++ (n.kids.flatMap num ++ r))))) := by unfold s2R; rw [p2]; exact rNum_num _ hz (by unfold MX; omega)
  have p4 : rByte (s3R (false, nodeB n ++ r)) = (n.typ, (false, num n.ref ++ (num n.kids.length ++ (n.kids.flatMap num ++ r)))) := by unfold s3R; rw [p3]; rfl
  have p5 : rNum MX (s4R (false, nodeB n ++ r)) = (n.ref, (false, num n.kids.length ++ (n.kids.flatMap num ++ r))) := by unfold s4R; rw [p4]; exact rNum_num _ hok.ref (by unfold MX; have := hok.ref; omega)
  have p6 : rNum (s5R (false, nodeB n ++ r)).2.length (s5R (false, nodeB n ++ r)) = (n.kids.length, (false, n.kids.flatMap num ++ r)) := by
    unfold s5R
    rw [p5]
    refine rNum_num _ hkl ?_
    have h1 : ∀ ks : List Nat, ks.length ≤ (ks.flatMap num).length := fun ks => by
      induction ks with
      | nil => exact Nat.zero_le _
      | cons x ks ih => rw [List.flatMap_cons, List.length_append, List.length_cons]; have := num_pos x; omega
    have h2 := h1 n.kids
    show n.kids.length ≤ (num n.kids.length ++ (n.kids.flatMap num ++ r)).length
    rw [List.length_append, List.length_append]
    omega
  obtain ⟨k1, k2⟩ := kids_again n.kids r hk
  refine ⟨?_, ?_⟩
  · unfold nodeN klR s6R
    rw [p2, p3, p4, p5, p6]
    show (⟨(rByte (false, nodeB n ++ r)).1, n.name, zag (zig n.num), n.typ, n.ref, (List.range n.kids.length).map (kidV (false, n.kids.flatMap num ++ r))⟩ : Nd) = n
    rw [k2, zag_zig, e]
    rfl
  · unfold nodeS klR s6R
    rw [p6]
    exact k1
/-- What Parse goes through: the nodes that any bytes tell. -/
def parseR : Nat → Nat → RS → List (Nat × Nd) → Option (RS × List (Nat × Nd))
  | 0, _, s, ns => some (s, ns)
  | c + 1, id, s, ns => if (rNum (MX - id) s).1 = 0 then none else parseR c (id + (rNum (MX - id) s).1) (nodeS (rNum (MX - id) s).2) (putL' ns (id + (rNum (MX - id) s).1) (nodeN (rNum (MX - id) s).2))
def parseL (l : List Nat) : Option (List (Nat × Nd)) :=
  match parseR (rNum 20000 (false, l)).1 0 (rNum 20000 (false, l)).2 [] with
  | none => none
  | some p => if p.1.1 = true ∨ p.1.2 ≠ [] then none else some p.2
theorem putL_last : ∀ (m : List (Nat × Nd)) (id : Nat) (n : Nd), (∀ q ∈ m, q.1 < id) → putL' m id n = m ++ [(id, n)]
  | [], _, _, _ => rfl
  | q :: m, id, n, h => by
    have hq := h q (by simp)
    have ih := putL_last m id n fun p hp => h p (by simp [hp])
    show (if q.1 < id then q :: putL' m id n else _) = _
    rw [if_pos hq, ih]
    rfl
/-- Nodes that a Put may hold whole. -/
structure Fit (n : Nd) : Prop where
  ok : NdOk n
  name : n.name.size ≤ 64
  kids : ∀ k ∈ n.kids, k < 18446744073709551616
  few : n.kids.length < 18446744073709551616
theorem nodes_again : ∀ (ns acc : List (Nat × Nd)) (b : Nat) (r : List Nat), Rise ns → (∀ p ∈ ns, b < p.1) → (∀ p ∈ ns, p.1 < 18446744073709551616) → (∀ q ∈ acc, ∀ p ∈ ns, q.1 < p.1) → (∀ p ∈ ns, Fit p.2) → parseR ns.length b (false, nodesB b ns ++ r) acc = some ((false, r), acc ++ ns)
  | [], acc, b, r, _, _, _, _, _ => by
    show some ((false, r), acc) = some ((false, r), acc ++ [])
    rw [List.append_nil]
  | p :: ns, acc, b, r, hr, hb, h64, ha, hf => by
    have hp := hb p (by simp)
    have hp64 := h64 p (by simp)
    have hfp := hf p (by simp)
    have e : nodesB b (p :: ns) ++ r = num (p.1 - b) ++ (nodeB p.2 ++ (nodesB p.1 ns ++ r)) := by
      show num (p.1 - b) ++ nodeB p.2 ++ nodesB p.1 ns ++ r = _
      simp [List.append_assoc]
    have h1 : rNum (MX - b) (false, nodesB b (p :: ns) ++ r) = (p.1 - b, (false, nodeB p.2 ++ (nodesB p.1 ns ++ r))) := by
      rw [e]
      exact rNum_num _ (by omega) (by unfold MX; omega)
    obtain ⟨h2, h3⟩ := node_again (nodesB p.1 ns ++ r) hfp.ok hfp.name hfp.kids hfp.few
    have hid : b + (p.1 - b) = p.1 := by omega
    have ih := nodes_again ns (acc ++ [p]) p.1 r (Rise.tail hr) (Rise.head hr) (fun q hq => h64 q (by simp [hq])) (fun q hq x hx => by
      rcases List.mem_append.1 hq with hq | hq
      · exact ha q hq x (by simp [hx])
      · rw [List.mem_singleton] at hq; rw [hq]; exact Rise.head hr x hx) (fun q hq => hf q (by simp [hq]))
    rw [List.length_cons]
    unfold parseR
    rw [h1]
    dsimp only
    rw [if_neg (by omega), hid, h2, h3, putL_last _ _ _ fun q hq => ha q hq p (by simp)]
    show parseR ns.length p.1 (false, nodesB p.1 ns ++ r) (acc ++ [p]) = _
    rw [ih, List.append_assoc]
    rfl
theorem arena_again {ns : List (Nat × Nd)} (hr : Rise ns) (h0 : ∀ p ∈ ns, 0 < p.1) (h64 : ∀ p ∈ ns, p.1 < 18446744073709551616) (hf : ∀ p ∈ ns, Fit p.2) (hl : ns.length ≤ 20000) : parseL (arenaB ns) = some ns := by
  have h1 : rNum 20000 (false, arenaB ns) = (ns.length, (false, nodesB 0 ns)) := by
    unfold arenaB
    exact rNum_num _ (by omega) hl
  have h2 := nodes_again ns [] 0 [] hr h0 h64 (by simp) hf
  rw [List.append_nil, List.nil_append] at h2
  unfold parseL
  rw [h1]
  dsimp only
  rw [h2]
  simp
end Go.Proofs.Ytdphpjlhkamadaa
namespace Go.Proofs.Ytdphpjlhkamadaa
open Go.RowKit
set_option linter.unusedSimpArgs false
set_option linter.unusedVariables false
theorem or_not_false {a b : Bool} (h : (a || !b) = false) : a = false ∧ b = true := by cases a <;> cases b <;> simp_all
theorem rNum_back {M : Nat} {s : RS} (hs : ∀ b ∈ s.2, b < 256) (h : (rNum M s).2.1 = false) : s.1 = false ∧ s.2 = num (rNum M s).1 ++ (rNum M s).2.2 := by
  have h1 : (s.1 || !(takeNum s.2 M).2.2) = false := h
  obtain ⟨h2, h3⟩ := or_not_false h1
  refine ⟨h2, ?_⟩
  show s.2 = num (takeNum s.2 M).1 ++ (takeNum s.2 M).2.1
  unfold takeNum at h3 ⊢
  by_cases hc : (numOf s.2).2 = 0 ∨ M < (numOf s.2).1
  · rw [if_pos hc] at h3; cases h3
  · rw [if_neg hc]
    obtain ⟨_, _, h4⟩ := numOf_back (a := (numOf s.2).1) (k := (numOf s.2).2) hs rfl (by omega)
    show s.2 = num (numOf s.2).1 ++ s.2.drop (numOf s.2).2
    rw [← h4, List.take_append_drop]
theorem rByte_back {s : RS} (h : (rByte s).2.1 = false) : s.1 = false ∧ s.2 = (rByte s).1 :: (rByte s).2.2 := by
  obtain ⟨b, l⟩ := s
  cases l with
  | nil =>
    have h1 : (b || !false) = false := h
    cases b <;> cases h1
  | cons x r =>
    have h1 : (b || !true) = false := h
    exact ⟨(or_not_false h1).1, rfl⟩
theorem rText_back {M : Nat} {s : RS} (hs : ∀ b ∈ s.2, b < 256) (h : (rText M s).2.1 = false) : s.1 = false ∧ s.2 = num (rText M s).1.size ++ str (rText M s).1 ++ (rText M s).2.2 ∧ (rText M s).1.size ≤ M := by
  have h1 : (s.1 || !(takeText s.2 M).2.2) = false := h
  obtain ⟨h2, h3⟩ := or_not_false h1
  have hn : (takeNum s.2 M).2.2 = true ∧ ¬ (takeNum s.2 M).2.1.length < (takeNum s.2 M).1 := by
    unfold takeText at h3
    by_cases hc : (takeNum s.2 M).2.1.length < (takeNum s.2 M).1
    · rw [if_pos hc] at h3; cases h3
    · rw [if_neg hc] at h3; exact ⟨h3, hc⟩
  have hb := rNum_back (M := M) (s := (false, s.2)) hs (by show (false || !(takeNum s.2 M).2.2) = false; rw [hn.1]; rfl)
  have hl : s.2 = num (takeNum s.2 M).1 ++ (takeNum s.2 M).2.1 := hb.2
  have hle : (takeNum s.2 M).1 ≤ M := rNum_le M (false, s.2)
  have ht : takeText s.2 M = ((takeNum s.2 M).2.1.take (takeNum s.2 M).1, (takeNum s.2 M).2.1.drop (takeNum s.2 M).1, (takeNum s.2 M).2.2) := by unfold takeText; rw [if_neg hn.2]
  have hsm : ∀ b ∈ (takeNum s.2 M).2.1.take (takeNum s.2 M).1, b < 256 := fun b hb2 => hs b (by rw [hl]; exact List.mem_append.2 (.inr (List.mem_of_mem_take hb2)))
  have hlen : ((takeNum s.2 M).2.1.take (takeNum s.2 M).1).length = (takeNum s.2 M).1 := by rw [List.length_take]; omega
  refine ⟨h2, ?_, ?_⟩
  · show s.2 = num (txt (takeText s.2 M).1).size ++ str (txt (takeText s.2 M).1) ++ (takeText s.2 M).2.1
    rw [ht]
    dsimp only
    rw [txt_size, hlen, str_txt hsm, List.append_assoc, List.take_append_drop]
    exact hl
  · show (txt (takeText s.2 M).1).size ≤ M
    rw [ht]
    dsimp only
    rw [txt_size, hlen]
    exact hle
theorem kids_back : ∀ (k : Nat) (s : RS), (∀ b ∈ s.2, b < 256) → (kidsS k s).1 = false → s.1 = false ∧ s.2 = ((List.range k).map (kidV s)).flatMap num ++ (kidsS k s).2
  | 0, s, _, h => ⟨h, rfl⟩
  | k + 1, s, hs, h => by
    rw [kidsS_shift] at h ⊢
    have hs1 : ∀ b ∈ (rNum MX s).2.2, b < 256 := fun b hb => by
      have h9 : b ∈ (takeNum s.2 MX).2.1 := hb
      rcases takeNum_parts s.2 MX with e | ⟨e, _⟩
      · rw [e] at h9; cases h9
      · rw [e] at h9; exact hs b (List.mem_of_mem_drop h9)
    obtain ⟨h1, h2⟩ := kids_back k (rNum MX s).2 hs1 h
    obtain ⟨h3, h4⟩ := rNum_back hs h1
    refine ⟨h3, ?_⟩
    rw [List.range_succ_eq_map, List.map_cons, List.map_map, List.flatMap_cons, List.append_assoc]
    have h5 : (kidV s ∘ Nat.succ) = kidV (rNum MX s).2 := by
      funext j
      exact kidV_shift j s
    rw [h5, ← h2]
    exact h4
theorem node_back {s : RS} (hf : Fine s) (h : (nodeS s).1 = false) : s.1 = false ∧ s.2 = nodeB (nodeN s) ++ (nodeS s).2 ∧ (nodeN s).name.size ≤ 64 := by
  have f1 : Fine (s1R s) := hf.byte.1
  have f2 : Fine (s2R s) := (f1.text 64).1
  have f3 : Fine (s3R s) := f2.num MX
  have f4 : Fine (s4R s) := f3.byte.1
  have f5 : Fine (s5R s) := f4.num MX
  have f6 : Fine (s6R s) := f5.num (s5R s).2.length
  have e6 : (rNum (s5R s).2.length (s5R s)).2 = s6R s := rfl
  have e5 : (rNum MX (s4R s)).2 = s5R s := rfl
  have e4 : (rByte (s3R s)).2 = s4R s := rfl
  have e3 : (rNum MX (s2R s)).2 = s3R s := rfl
  have e2 : (rText 64 (s1R s)).2 = s2R s := rfl
  have e1 : (rByte s).2 = s1R s := rfl
  have ek : (rNum (s5R s).2.length (s5R s)).1 = klR s := rfl
  have en : nodeS s = kidsS (klR s) (s6R s) := rfl
  rw [en] at h ⊢
  obtain ⟨a6, b6⟩ := kids_back (klR s) (s6R s) f6.1 h
  obtain ⟨a5, b5⟩ := rNum_back (M := (s5R s).2.length) (s := s5R s) f5.1 (by rw [e6]; exact a6)
  obtain ⟨a4, b4⟩ := rNum_back (M := MX) (s := s4R s) f4.1 (by rw [e5]; exact a5)
  obtain ⟨a3, b3⟩ := rByte_back (s := s3R s) (by rw [e4]; exact a4)
  obtain ⟨a2, b2⟩ := rNum_back (M := MX) (s := s2R s) f2.1 (by rw [e3]; exact a3)
  obtain ⟨a1, b1, hsz⟩ := rText_back (M := 64) (s := s1R s) f1.1 (by rw [e2]; exact a2)
  obtain ⟨a0, b0⟩ := rByte_back (s := s) (by rw [e1]; exact a1)
  rw [ek, e6] at b5
  rw [e5] at b4
  rw [e4] at b3
  rw [e3] at b2
  rw [e2] at b1
  rw [e1] at b0
  refine ⟨a0, ?_, hsz⟩
  have hkl : (nodeN s).kids.length = klR s := by unfold nodeN; simp
  have e : nodeB (nodeN s) ++ (kidsS (klR s) (s6R s)).2 = (rByte s).1 :: (num (rText 64 (s1R s)).1.size ++ str (rText 64 (s1R s)).1 ++ (num (zig (zag (rNum MX (s2R s)).1)) ++ ((rByte (s3R s)).1 :: (num (rNum MX (s4R s)).1 ++ (num (klR s) ++ (((List.range (klR s)).map (kidV (s6R s))).flatMap num ++ (kidsS (klR s) (s6R s)).2)))))) := by
    unfold nodeB headB
    rw [hkl]
    unfold nodeN
    simp [List.append_assoc]
  rw [e, zig_zag, ← b6, ← b5, ← b4, ← b3, ← b2, ← b1]
  exact b0
theorem parseR_back : ∀ (c id : Nat) (s : RS) (acc : List (Nat × Nd)) (s' : RS) (ns : List (Nat × Nd)), Fine s → id ≤ MX → (∀ q ∈ acc, q.1 ≤ id) → parseR c id s acc = some (s', ns) → s'.1 = false → ∃ ms, ns = acc ++ ms ∧ s.1 = false ∧ s.2 = nodesB id ms ++ s'.2 ∧ ms.length = c ∧ Rise ms ∧ ∀ p ∈ ms, id < p.1 ∧ p.1 ≤ MX
  | 0, id, s, acc, s', ns, hf, hid, ha, h, h' => by
    have h1 : some (s, acc) = some (s', ns) := h
    injection h1 with h1
    injection h1 with h2 h3
    subst h2 h3
    exact ⟨[], by simp, h', rfl, rfl, Rise.nil, by simp⟩
  | c + 1, id, s, acc, s', ns, hf, hid, ha, h, h' => by
    unfold parseR at h
    obtain ⟨st, hst⟩ : ∃ st, st = (rNum (MX - id) s).1 := ⟨_, rfl⟩
    obtain ⟨sN, hsN⟩ : ∃ sN, sN = (rNum (MX - id) s).2 := ⟨_, rfl⟩
    rw [← hst, ← hsN] at h
    have hle : st ≤ MX - id := by rw [hst]; exact rNum_le _ _
    have hfN : Fine sN := by rw [hsN]; exact hf.num _
    by_cases h0 : st = 0
    · rw [if_pos h0] at h; cases h
    rw [if_neg h0] at h
    have hfS : Fine (nodeS sN) := Fine.kids (Fine.num (Fine.num (Fine.byte (Fine.num (Fine.text (Fine.byte hfN).1 64).1 MX)).1 MX) _) _
    have hlast : putL' acc (id + st) (nodeN sN) = acc ++ [(id + st, nodeN sN)] := putL_last _ _ _ fun q hq => by have := ha q hq; omega
    rw [hlast] at h
    obtain ⟨ms, e1, e2, e3, e4, e5, e6⟩ := parseR_back c (id + st) (nodeS sN) (acc ++ [(id + st, nodeN sN)]) s' ns hfS (by omega) (fun q hq => by
      rcases List.mem_append.1 hq with hq | hq
      · have := ha q hq; omega
      · rw [List.mem_singleton] at hq; rw [hq]; exact Nat.le_refl _) h h'
    obtain ⟨n1, n2, _⟩ := node_back hfN e2
    obtain ⟨r1, r2⟩ := rNum_back (M := MX - id) (s := s) hf.1 (by rw [← hsN]; exact n1)
    rw [← hst, ← hsN] at r2
    refine ⟨(id + st, nodeN sN) :: ms, by rw [e1, List.append_assoc]; rfl, r1, ?_, by simp [e4], ?_, ?_⟩
    · show s.2 = num (id + st - id) ++ nodeB (nodeN sN) ++ nodesB (id + st) ms ++ s'.2
      rw [show id + st - id = st by omega, List.append_assoc, List.append_assoc, ← e3, ← n2]
      exact r2
    · exact List.pairwise_cons.2 ⟨fun q hq => (e6 q hq).1, e5⟩
    · intro p hp
      rcases List.mem_cons.1 hp with rfl | hp
      · exact ⟨by show id < id + st; omega, by show id + st ≤ MX; omega⟩
      · have := e6 p hp; exact ⟨by omega, this.2⟩
/-- What parses has just the bytes of its nodes. -/
theorem arena_back {l : List Nat} {ns : List (Nat × Nd)} (hs : ∀ b ∈ l, b < 256) (hl : l.length ≤ 1048576) (h : parseL l = some ns) : arenaB ns = l ∧ Rise ns ∧ (∀ p ∈ ns, 0 < p.1 ∧ p.1 ≤ MX) ∧ ns.length ≤ 20000 := by
  unfold parseL at h
  obtain ⟨n, hn⟩ : ∃ n, n = (rNum 20000 (false, l)).1 := ⟨_, rfl⟩
  obtain ⟨s, hss⟩ : ∃ s, s = (rNum 20000 (false, l)).2 := ⟨_, rfl⟩
  rw [← hn, ← hss] at h
  have hf : Fine s := by rw [hss]; exact Fine.num (s := (false, l)) ⟨hs, hl⟩ 20000
  have hle : n ≤ 20000 := by rw [hn]; exact rNum_le _ _
  cases hp : parseR n 0 s [] with
  | none => rw [hp] at h; cases h
  | some p =>
    obtain ⟨s', ms⟩ := p
    rw [hp] at h
    dsimp only at h
    by_cases hc : s'.1 = true ∨ s'.2 ≠ []
    · rw [if_pos hc] at h; cases h
    rw [if_neg hc] at h
    injection h with h
    subst h
    have h1 : s'.1 = false := by cases hb : s'.1; rfl; exact absurd (.inl hb) hc
    have h2 : s'.2 = [] := by cases hb : s'.2 with
      | nil => rfl
      | cons x r => exact absurd (.inr (by rw [hb]; simp)) hc
    obtain ⟨ms', e1, e2, e3, e4, e5, e6⟩ := parseR_back n 0 s [] s' ms hf (Nat.zero_le _) (by simp) hp h1
    rw [List.nil_append] at e1
    subst e1
    obtain ⟨_, r2⟩ := rNum_back (M := 20000) (s := (false, l)) hs (by rw [← hss]; exact e2)
    rw [← hn, ← hss] at r2
    refine ⟨?_, e5, e6, by omega⟩
    unfold arenaB
    have r3 : l = num n ++ s.2 := r2
    rw [e4, r3, e3, h2, List.append_nil]
end Go.Proofs.Ytdphpjlhkamadaa
namespace Go.Proofs.Ytdphpjlhkamadaa
open Go.RowKit
set_option linter.unusedSimpArgs false
set_option linter.unusedVariables false
theorem rNum_less (M : Nat) (s : RS) : (rNum M s).2.2.length ≤ s.2.length - 1 := by
  show (takeNum s.2 M).2.1.length ≤ _
  unfold takeNum
  by_cases hc : (numOf s.2).2 = 0 ∨ M < (numOf s.2).1
  · rw [if_pos hc]; exact Nat.zero_le _
  · rw [if_neg hc]
    show (s.2.drop (numOf s.2).2).length ≤ _
    rw [List.length_drop]
    omega
theorem rByte_less (s : RS) : (rByte s).2.2.length ≤ s.2.length := by
  obtain ⟨b, l⟩ := s
  cases l with
  | nil => exact Nat.le_refl _
  | cons x r => show r.length ≤ (x :: r).length; simp
theorem rText_less (M : Nat) (s : RS) : (rText M s).2.2.length ≤ s.2.length := by
  have h1 := rNum_less M s
  have h2 : (rNum M s).2.2 = (takeNum s.2 M).2.1 := rfl
  rw [h2] at h1
  show (takeText s.2 M).2.1.length ≤ _
  unfold takeText
  split
  · exact Nat.zero_le _
  · show (List.drop _ _).length ≤ _
    rw [List.length_drop]
    omega
theorem kidsS_less : ∀ (k : Nat) (s : RS), (kidsS k s).2.length ≤ s.2.length - k
  | 0, s => Nat.le_refl _
  | k + 1, s => by
    rw [kidsS_shift]
    have h1 := kidsS_less k (rNum MX s).2
    have h2 := rNum_less MX s
    omega
/-- A node's kids, and what is left behind it, are no more than what was left ahead of it. -/
theorem node_less (s : RS) : (nodeN s).kids.length + (nodeS s).2.length ≤ s.2.length := by
  have h1 : (s1R s).2.length ≤ s.2.length := rByte_less s
  have h2 : (s2R s).2.length ≤ (s1R s).2.length := rText_less 64 (s1R s)
  have h3 : (s3R s).2.length ≤ (s2R s).2.length - 1 := rNum_less MX (s2R s)
  have h4 : (s4R s).2.length ≤ (s3R s).2.length := rByte_less (s3R s)
  have h5 : (s5R s).2.length ≤ (s4R s).2.length - 1 := rNum_less MX (s4R s)
  have h6 : (s6R s).2.length ≤ (s5R s).2.length - 1 := rNum_less _ (s5R s)
  have h7 : (kidsS (klR s) (s6R s)).2.length ≤ (s6R s).2.length - klR s := kidsS_less _ _
  have hk : klR s ≤ (s5R s).2.length := rNum_le _ (s5R s)
  have hl : (nodeN s).kids.length = klR s := by unfold nodeN; simp
  have e : (nodeS s).2.length = (kidsS (klR s) (s6R s)).2.length := rfl
  rw [hl, e]
  omega
end Go.Proofs.Ytdphpjlhkamadaa
namespace Go.Proofs.Ytdphpjlhkamadaa
open Go.RowKit
set_option linter.unusedSimpArgs false
set_option linter.unusedVariables false
set_option maxRecDepth 100000
theorem AR.chgG {w w' : World} {b ga gm gp N g : Nat} {F : PF} {vs : List (Nat × Value)} {ns : List (Nat × Nd)} {cs : Array Value} (h : AR w b ga gm gp F vs ns N) (hC : Chg w w' g none) (hg : w.heap[g]? = some (.cells cs 119 (0, 0))) : AR w' b ga gm gp F vs ns N := by
  refine h.keep (S := fun j => j = g) ⟨hC.os, hC.tape, hC.output, hC.size, fun j hj hn => hC.block j hj hn (by simp)⟩ fun j e => ?_
  subst e
  refine ⟨fun e => ?_, fun ho => ?_, fun cs' z e => ?_⟩
  · rw [e, h.st] at hg
    injection hg with hg
    injection hg with _ h2 _
    revert h2
    decide
  · rcases h.obj ho with ⟨es, cl, h1⟩ | ⟨cs2, h1⟩
    · rw [h1] at hg; cases hg
    · rw [h1] at hg
      injection hg with hg
      injection hg with _ h2 _
      revert h2
      decide
  · rw [hg] at e
    injection e with e
    injection e with _ h2 _
    revert h2
    decide
def ParseR (w : World) (l : List Nat) (e : Ending) (w' : World) : Prop :=
  ((parseL l = none ∧ e = .returned (.tuple #[.pointer none, .int .i64 2])) ∨ ∃ ns b ga gm gp F vs N, parseL l = some ns ∧ e = .returned (.tuple #[.pointer (some ⟨ga, 0, none⟩), .int .i64 0]) ∧ w.heap.size ≤ b ∧ AR w' b ga gm gp F vs ns N ∧ N ≤ 1048576) ∧ Below w.heap.size w w'
def PaI (w : World) (b g ga gm gp n : Nat) (s0 : RS) (idv iv : Value) (wr : World) : Prop :=
  ∃ (k id : Nat) (s : RS) (ns : List (Nat × Nd)) (F : PF) (vs : List (Nat × Value)) (N : Nat), k ≤ n ∧ iv = .int .u64 (k : Int) ∧ idv = .int .u64 (id : Int) ∧ id ≤ MX ∧ Fine s ∧ (∃ u, Rdr wr g g u s.1 s.2) ∧ AR wr b ga gm gp F vs ns N ∧ N + s.2.length ≤ 1048576 ∧ (∀ q ∈ ns, q.1 ≤ id) ∧ ns.length ≤ k ∧ parseR n 0 s0 [] = parseR (n - k) id s ns ∧ Below w.heap.size w wr
theorem PaI.mk {w wr : World} {b g ga gm gp n N : Nat} {s0 : RS} {F : PF} {vs : List (Nat × Value)} (k id : Nat) (s : RS) (ns : List (Nat × Nd)) (h1 : k ≤ n) (h2 : id ≤ MX) (h3 : Fine s) (h4 : ∃ u, Rdr wr g g u s.1 s.2) (h5 : AR wr b ga gm gp F vs ns N) (h6 : N + s.2.length ≤ 1048576) (h7 : ∀ q ∈ ns, q.1 ≤ id) (h8 : ns.length ≤ k) (h9 : parseR n 0 s0 [] = parseR (n - k) id s ns) (h10 : Below w.heap.size w wr) : PaI w b g ga gm gp n s0 (.int .u64 (id : Int)) (.int .u64 (k : Int)) wr := ⟨k, id, s, ns, F, vs, N, h1, rfl, rfl, h2, h3, h4, h5, h6, h7, h8, h9, h10⟩
set_option maxHeartbeats 8000000 in
theorem parse_any (w : World) (v : Value) (l : List Nat) (hp : Bytes w w.heap.size v l) (hl : l.length ≤ 1048576) :
    Calls Try.prog 20 #[v] w (ParseR w l) := by
  have HRD := Lib.hid (read_any w v l hp hl)
  have HSM := Lib.hid hp.small
  obtain ⟨n, hn⟩ : ∃ n, n = (rNum 20000 (false, l)).1 := ⟨_, rfl⟩
  obtain ⟨s0, hs0⟩ : ∃ s0, s0 = (rNum 20000 (false, l)).2 := ⟨_, rfl⟩
  have hn2 : n ≤ 20000 := by rw [hn]; exact rNum_le _ _
  have hf0 : Fine s0 := by rw [hs0]; exact Fine.num (s := (false, l)) ⟨hp.small, hl⟩ 20000
  have HN := Lib.hid hn
  have HS0 := Lib.hid hs0
  have HF0 := Lib.hid hf0
  clear hp hl hn hs0 hf0
  go_enter Try.func20, Try.ntmps20
  go_wp2_with (first
    | (go_at_call 47; (with_reducible refine (HRD.out).mono ?_); rintro e w1 ⟨g, u, rfl, hR, hgl, hb1⟩; go_loud (
        have HR1 := Lib.hid hR;
        have HGL := Lib.hid hgl;
        have HB1 := Lib.hid hb1;
        have HE1 := Lib.hid (empty_any w1);
        clear hR hgl hb1))
    | (go_at_call 37; (with_reducible refine (HE1.out).mono ?_); rintro e w2 ⟨ga, gm, gp, rfl, hA, hb2⟩; go_loud (
        have hT2 : Took w2 g g (false, l).1 (false, l).2 w2 := ⟨u, HR1.out.below hb2, Chg.refl _ _ _⟩;
        have hc2 := rnumS (M := 20000) (s := (false, l)) hT2 (by decide);
        rw [← HN.out, ← HS0.out] at hc2;
        simp only [show ((20000 : Nat) : Int) = 20000 from rfl] at hc2;
        have HC2 := Lib.hid hc2;
        have HA2 := Lib.hid hA;
        have HB2 := Lib.hid (HB1.out.trans (hb2.mono HB1.out.size));
        have HR2 := Lib.hid (HR1.out.below hb2);
        have HG1 := Lib.hid (lt_of_heap HR1.out.st);
        clear hA hb2 hT2 hc2))
    | (go_at_call 48; (with_reducible refine (HC2.out).mono ?_); rintro e w3 ⟨rfl, hT3, hC3⟩; go_loud (
        have HT3 := Lib.hid hT3;
        have HA3 := Lib.hid (HA2.out.chgG hC3 HR2.out.st);
        have HC3 := Lib.hid hC3;
        clear hT3 hC3)))
  have hb23 : Below w.heap.size w w3 := HC3.out.below HB2.out HB2.out.size HGL.out (fun k e => by cases e)
  have hst : PaI w w1.heap.size g ga gm gp n s0 (.int .u64 ((0 : Nat) : Int)) (.int .u64 ((0 : Nat) : Int)) w3 := PaI.mk 0 0 s0 [] (Nat.zero_le _) (Nat.zero_le _) HF0.out (by obtain ⟨u9, h9, _⟩ := HT3.out; exact ⟨u9, h9⟩) HA3.out (by have := HF0.out.2; omega) (by simp) (Nat.le_refl _) rfl hb23
  have HST := Lib.hid hst
  clear hst hb23
  go_loopw [6, 13] (fun idv iv wr => PaI w w1.heap.size g ga gm gp n s0 idv iv wr) (fun _ iv _ => n - (intOf iv).toNat)
  case atStart => exact HST.out
  case round =>
    obtain ⟨k, id, s, ns, F, vs, N, hk, rfl, rfl, hid, hf, ⟨u1, hR⟩, hA, hN, hq, hnl, hpar, hb⟩ := hrel
    have HF := Lib.hid hf
    have HR := Lib.hid hR
    have HA := Lib.hid hA
    have HNB := Lib.hid hN
    have HQ := Lib.hid hq
    have HPAR := Lib.hid hpar
    have HB := Lib.hid hb
    have hidb : id ≤ 18446744073709551615 := hid
    clear hf hR hA hN hq hpar hb
    by_cases hlt : k < n
    · have hltI : (k : Int) < (n : Int) := by omega
      have hw1 : IntKind.u64.wrap (18446744073709551615 - (id : Int)) = ((MX - id : Nat) : Int) := by
        have h : IntKind.u64.wrap (18446744073709551615 - (id : Int)) = (18446744073709551615 - (id : Int)) % 18446744073709551616 := by first | rfl | (unfold IntKind.wrap; rfl)
        rw [h]
        unfold MX
        omega
      obtain ⟨st, hst⟩ : ∃ st, st = (rNum (MX - id) s).1 := ⟨_, rfl⟩
      obtain ⟨sN, hsN⟩ : ∃ sN, sN = (rNum (MX - id) s).2 := ⟨_, rfl⟩
      obtain ⟨md, hmd⟩ : ∃ md, md = MX - id := ⟨_, rfl⟩
      have hstl : st ≤ MX - id := by rw [hst]; exact rNum_le _ _
      have hnum := rnumS (W := wr) (w := wr) (B := g) (g := g) (s := s) (M := MX - id) ⟨u1, HR.out, Chg.refl _ _ _⟩ (by unfold MX; omega)
      rw [← hst, ← hsN, ← hmd] at hnum
      rw [← hmd] at hw1
      have hsubI : (18446744073709551615 : Int) - (id : Int) = (md : Int) := by rw [hmd]; unfold MX; omega
      have hpn : parseR n 0 s0 [] = if st = 0 then none else parseR (n - (k + 1)) (id + st) (nodeS sN) (putL' ns (id + st) (nodeN sN)) := by
        rw [HPAR.out, show n - k = (n - (k + 1)) + 1 by omega, hst, hsN]
        rfl
      have HNUM := Lib.hid hnum
      have HPN := Lib.hid hpn
      have HFN := Lib.hid (show Fine sN from by rw [hsN]; exact HF.out.num _)
      have HLESS := Lib.hid (show sN.2.length ≤ s.2.length from by rw [hsN]; have := rNum_less (MX - id) s; omega)
      clear hnum hpn hst hsN hmd
      by_cases h0 : st = 0
      · subst h0
        go_wp2_with (go_at_call 48; (with_reducible refine (HNUM.out).mono ?_); rintro e w4 ⟨rfl, hT4, hC4⟩; go_loud (
          have HB4 := Lib.hid (hC4.below HB.out HB.out.size HGL.out (fun k e => by cases e));
          clear hT4 hC4))
        go_ret2
        refine ⟨.inl ⟨?_, rfl⟩, HB4.out⟩
        have h1 := HPN.out
        first | rw [if_pos rfl] at h1 | rw [if_pos trivial] at h1
        unfold parseL
        rw [← HN.out, ← HS0.out, h1]
      · have h0I : ((st : Int) == 0) = false := by rw [beq_eq_false_iff_ne]; omega
        have h0J : ¬ (st : Int) = 0 := by omega
        have hadd : IntKind.u64.wrap ((id : Int) + (st : Int)) = ((id + st : Nat) : Int) := by
          have h : IntKind.u64.wrap ((id : Int) + (st : Int)) = ((id : Int) + (st : Int)) % 18446744073709551616 := by first | rfl | (unfold IntKind.wrap; rfl)
          rw [h]
          unfold MX at hstl
          omega
        have hsb : id + st ≤ 18446744073709551615 := by unfold MX at hstl; omega
        go_wp2_with (first
          | (go_at_call 48; (with_reducible refine (HNUM.out).mono ?_); rintro e w4 ⟨rfl, hT4, hC4⟩; go_loud (
              obtain ⟨u4, hR4, _⟩ := hT4;
              have HB4 := Lib.hid (hC4.below HB.out HB.out.size HGL.out (fun k e => by cases e));
              have HA4 := Lib.hid (HA.out.chgG hC4 HR.out.st);
              have HRN := Lib.hid (nread_any w4 g g u4 sN hR4 HFN.out.2);
              have HR4 := Lib.hid hR4;
              clear hR4 hC4))
          | (go_at_call 49; (with_reducible refine (HRN.out).mono ?_); rintro e w5 ⟨A5, c5, rfl, ho5, hok5, hsm5, hkl5, hfS, hT5⟩; go_loud (
              obtain ⟨u5, hR5, hC5⟩ := hT5;
              have hA5 := HA4.out.chgG hC5 HR4.out.st;
              have hi5 := IdSl.of_own ho5 hsm5 (by omega);
              have hnew : getL ns (id + st) = none := getL_none fun q hq => by have := HQ.out q hq; omega;
              have hset := set_any w5 _ ga gm gp (id + st) N F vs ns _ (nodeN sN) hA5 ⟨⟨A5, c5, rfl, hi5⟩, hok5⟩ (by omega) (by rw [hnew]; have := HNB.out; have := node_less sN; have := HLESS.out; show N + 0 + _ ≤ _; omega) (by omega);
              rw [hnew, show ((id + st : Nat) : Int) = (id : Int) + (st : Int) by omega] at hset;
              unfold ndV at hset ⊢;
              have HSET := Lib.hid hset;
              have HB5 := Lib.hid (hC5.below HB4.out HB4.out.size HGL.out (fun k e => by cases e));
              have HR5 := Lib.hid hR5;
              have HFS := Lib.hid hfS;
              have HA5 := Lib.hid hA5;
              clear ho5 hok5 hsm5 hkl5 hfS hR5 hC5 hA5 hi5 hnew hset))
          | (go_at_call 38; (with_reducible refine (HSET.out).mono ?_); rintro e w6 ⟨rfl, F6, vs6, hA6, hT6, hO6⟩; go_loud (
              have HA6 := Lib.hid hA6;
              have HR6 := Lib.hid (HR5.out.keep fun j hj => hT6.block j (Nat.lt_of_le_of_lt hj (lt_of_heap HR5.out.st)) fun ho => by have := HA5.out.low ho; have := HG1.out; omega);
              have HB6 := Lib.hid (HB5.out.trans (hT6.below HB5.out.size fun j hj => Nat.le_trans HB1.out.size (HA5.out.low hj)));
              clear hA6 hT6 hO6)))
        have hpn := HPN.out
        rw [if_neg h0] at hpn
        have hrise := HA.out.rise
        have hfin := PaI.mk (w := w) (b := w1.heap.size) (g := g) (ga := ga) (gm := gm) (gp := gp) (s0 := s0) (k + 1) (id + st) (nodeS sN) (putL' ns (id + st) (nodeN sN)) (by omega) (by unfold MX; omega) HFS.out ⟨_, HR6.out⟩ HA6.out (by have := HNB.out; have := node_less sN; have := HLESS.out; show N + 0 + _ + _ ≤ _; omega) (fun q hq => by
          rcases putL_mem hq with rfl | hq
          · exact Nat.le_refl _
          · have := HQ.out q hq; omega) (by rw [putL_length _ _ hrise]; split <;> omega) hpn HB6.out
        first
          | (go_roundw; (case rel => exact hfin); (case measure => simp [intOf]; omega))
          | (refine ⟨hfin, ?measure⟩; (case measure => simp [intOf]; omega))
    · have hltI : ¬ (k : Int) < (n : Int) := by omega
      have hkn : k = n := by omega
      have hpn := HPAR.out
      rw [hkn, Nat.sub_self] at hpn
      have hpl : parseL l = if s.1 = true ∨ s.2 ≠ [] then none else some ns := by
        unfold parseL
        rw [← HN.out, ← HS0.out, hpn]
        rfl
      have HDN := Lib.hid (rdone_any wr g g u1 s.1 s.2 HR.out)
      have HPL := Lib.hid hpl
      clear hpn hpl
      by_cases hc : s.1 = true ∨ s.2 ≠ []
      · rw [done_bad hc] at HDN
        go_wp2_with (go_at_call 50; (with_reducible refine (HDN.out).mono ?_); rintro e w8 ⟨rfl, rfl⟩)
        go_ret2
        exact ⟨.inl ⟨by rw [HPL.out, if_pos hc], rfl⟩, HB.out⟩
      · have hd : doneIs s.1 s.2 = 0 := if_neg hc
        rw [hd] at HDN
        go_wp2_with (go_at_call 50; (with_reducible refine (HDN.out).mono ?_); rintro e w8 ⟨rfl, rfl⟩)
        go_ret2
        exact ⟨.inr ⟨ns, w1.heap.size, ga, gm, gp, F, vs, N, by rw [HPL.out, if_neg hc], rfl, HB1.out.size, HA.out, by have := HNB.out; omega⟩, HB.out⟩
end Go.Proofs.Ytdphpjlhkamadaa
