/- DApart, DRead: joined by program (tools/merge.py). -/
import Derived.Test.YtalpippeelomjaaZ20
namespace Go.Proofs.Ytalpippeelomjaa
open Go.RowKit
set_option linter.unusedSimpArgs false

/-- A row stays where only blocks turn that are not its own. -/
theorem row_only {w w' : World} {base n size : Nat} {t : TypeId} {v : Value} {xs : List Value} {p : Nat → Prop} (h : w.ownsRow base t size v n xs) (ho : OnlyAt w w' p) (hp : ∀ g cur, w.heap[g]? = some (.cells cur t (0, 0)) → v.ownBlock = some g → ¬ p g) : w'.ownsRow base t size v n xs := by
  obtain ⟨hl, hv⟩ := id h
  refine ⟨hl, ?_⟩
  rcases hv with hv | ⟨g, cap, cur, rfl, h1, h2, h3⟩
  · exact .inl hv
  · refine .inr ⟨g, cap, cur, rfl, h1, ?_, h3⟩
    rw [ho.block g (Array.getElem?_eq_some_iff.1 h2).1 (hp g cur h2 rfl)]
    exact h2
theorem Disk.only {w w' : World} {gs : Nat} {b : DB} {dur : List (List Nat)} {pend : List (Nat × List Nat)} {wr bud : Int} {p : Nat → Prop} (h : Disk w gs b dur pend wr bud) (ho : OnlyAt w w' p) (h1 : ¬ p gs) (h2 : ¬ p b.gd) (h3 : ¬ p b.gl) (h4 : ∀ g, b.pv.ownBlock = some g → ¬ p g) : Disk w' gs b dur pend wr bud := by
  refine ⟨?_, row_only h.du ho fun g cur _ e => ?_, row_only h.pe ho fun g cur _ e => h4 g e, row_only h.la ho fun g cur _ e => ?_, h.sec, h.wri, h.few, h.many⟩
  · rw [ho.block gs h.lt h1]
    exact h.st
  · have e2 : b.gd = g := by simpa [Value.ownBlock] using e
    rw [← e2]; exact h2
  · have e2 : b.gl = g := by simpa [Value.ownBlock] using e
    rw [← e2]; exact h3
/-- No block of a disk holds bytes. -/
theorem Disk.not_bytes {w : World} {gs g : Nat} {b : DB} {dur : List (List Nat)} {pend : List (Nat × List Nat)} {wr bud : Int} {cur : Array Value} (h : Disk w gs b dur pend wr bud) (hg : w.heap[g]? = some (.cells cur 5 (0, 0))) : g ≠ gs ∧ g ≠ b.gd ∧ g ≠ b.gl ∧ some g ≠ b.pv.ownBlock := by
  refine ⟨fun e => ?_, fun e => ?_, fun e => ?_, fun e => ?_⟩
  · have h1 := h.st
    rw [← e, hg] at h1
    injection h1 with h1
    injection h1 with _ h2
    exact absurd h2 (by decide)
  · obtain ⟨c2, h1⟩ := row_of h.du
    rw [← e, hg] at h1
    injection h1 with h1
    injection h1 with _ h2
    exact absurd h2 (by decide)
  · obtain ⟨c2, h1⟩ := row_of h.la
    rw [← e, hg] at h1
    injection h1 with h1
    injection h1 with _ h2
    exact absurd h2 (by decide)
  · rcases h.pe.2 with ⟨h1, _⟩ | ⟨g2, cap, c2, h1, _, h2, _⟩
    · rw [h1] at e; cases e
    · rw [h1] at e
      have e2 : g = g2 := by simpa [Value.ownBlock] using e
      rw [← e2, hg] at h2
      injection h2 with h2
      injection h2 with _ h3
      exact absurd h3 (by decide)
/-- A text of one's own stays where only a disk's blocks turn. -/
theorem Mine.disk {w w' : World} {base m c gs : Nat} {A : Option Addr} {l : List Nat} {b : DB} {dur : List (List Nat)} {pend : List (Nat × List Nat)} {wr bud : Int} {p : Nat → Prop} (h : Mine w base A m c l) (hd : Disk w gs b dur pend wr bud) (ho : OnlyAt w w' p)
    (hp : ∀ k, p k → k = gs ∨ k = b.gd ∨ k = b.gl ∨ some k = b.pv.ownBlock) : Mine w' base A m c l := by
  refine ⟨row_only h.own ho fun g cur hg _ hpg => ?_, h.len, h.small⟩
  obtain ⟨n1, n2, n3, n4⟩ := hd.not_bytes hg
  rcases hp g hpg with e | e | e | e
  · exact n1 e
  · exact n2 e
  · exact n3 e
  · exact n4 e
theorem flags_none (w : World) : Flags w (.slice none 0 0) [] := ⟨⟨none, 0, rfl, fun j v h => by simp at h⟩⟩
/-- At the head of each round of DiskLimits: i writes and syncs were tried, the first k of them done. -/
def LimR (W : World) (base gs k N c : Nat) (A : Option Addr) (l : List Nat) (t : Value) (x : World) : Prop :=
  ∃ (i : Nat) (b : DB) (dur : List (List Nat)) (pend : List (Nat × List Nat)) (nw : Int), i ≤ N ∧ t = .int .i64 (i : Int) ∧ Disk x gs b dur pend nw ((k - i : Nat) : Int) ∧ dur.length = 4 ∧ pend.length ≤ i ∧ 0 ≤ nw ∧ nw ≤ i ∧ (pend = [] → b.pv = .slice none 0 0) ∧
    W.heap.size ≤ b.gd ∧ W.heap.size ≤ b.gl ∧ (∀ g, b.pv.ownBlock = some g → W.heap.size ≤ g) ∧ Mine x base A 512 c l ∧ Below W.heap.size W x
theorem limR_off {W x : World} {base gs k N c i : Nat} {A : Option Addr} {l : List Nat} (h : LimR W base gs k N c A l (.int .i64 (i : Int)) x) (hi : i < N) (hk : k ≤ i) : LimR W base gs k N c A l (.int .i64 ((i + 1 : Nat) : Int)) x := by
  obtain ⟨j, b, dur, pend, nw, h1, h2, h3, h4, h5, h6, h7, h8⟩ := h
  have e : i = j := by injection h2 with _ h2; omega
  subst e
  refine ⟨i + 1, b, dur, pend, nw, by omega, rfl, ?_, h4, by omega, h6, by omega, h8⟩
  rw [show k - (i + 1) = k - i by omega]
  exact h3
theorem less_step {k i : Nat} (h : i < k) : less ((k - i : Nat) : Int) = ((k - (i + 1) : Nat) : Int) := by
  unfold less
  rw [if_pos (by omega)]
  omega
theorem limR_write {W x x' : World} {base gs k N c i j : Nat} {A : Option Addr} {l : List Nat} {b b2 : DB} {dur : List (List Nat)} {pend : List (Nat × List Nat)} {nw : Int} (hk : i < k) (hi : i < N)
    (hD : Disk x gs b dur pend nw ((k - i : Nat) : Int)) (h4 : dur.length = 4) (h5 : pend.length ≤ i) (h6 : 0 ≤ nw) (h7 : nw ≤ i) (hgs : W.heap.size ≤ gs) (hgd : W.heap.size ≤ b.gd) (hgl : W.heap.size ≤ b.gl) (hpv : ∀ g, b.pv.ownBlock = some g → W.heap.size ≤ g)
    (hM : Mine x base A 512 c l) (hb : Below W.heap.size W x)
    (w1 : Disk x' gs b2 dur (pend ++ [(j, l)]) (nw + 1) (less ((k - i : Nat) : Int))) (e1 : b2.gd = b.gd) (e3 : b2.gl = b.gl) (e5 : b2.pv.ownBlock = b.pv.ownBlock ∨ ∃ g, b2.pv.ownBlock = some g ∧ x.heap.size ≤ g)
    (ho : OnlyAt x x' (fun k => k = gs ∨ k = b.gl ∨ some k = b.pv.ownBlock)) : LimR W base gs k N c A l (.int .i64 ((i + 1 : Nat) : Int)) x' := by
  refine ⟨i + 1, b2, dur, pend ++ [(j, l)], nw + 1, by omega, rfl, ?_, h4, by rw [List.length_append]; simp; omega, by omega, by omega, fun h => by simp at h, by omega, by omega, fun g hg => ?_, hM.disk hD ho (fun k hk => ?_), hb.trans (ho.below (fun k hk => ?_) hb.size)⟩
  · rw [← less_step hk]
    exact w1
  · rcases e5 with h | ⟨g2, h, h2⟩
    · exact hpv g (h ▸ hg)
    · rw [h] at hg
      cases hg
      exact Nat.le_trans hb.size h2
  · rcases hk with h | h | h
    · exact .inl h
    · exact .inr (.inr (.inl h))
    · exact .inr (.inr (.inr h))
  · rcases hk with h | h | h
    · omega
    · omega
    · exact hpv k h.symm
theorem limR_sync {W x x' : World} {base gs k N c i : Nat} {A : Option Addr} {l : List Nat} {b : DB} {dur : List (List Nat)} {pend : List (Nat × List Nat)} {nw : Int} (hk : i < k) (hi : i < N)
    (hD : Disk x gs b dur pend nw ((k - i : Nat) : Int)) (h4 : dur.length = 4) (h6 : 0 ≤ nw) (h7 : nw ≤ i) (hgs : W.heap.size ≤ gs) (hgd : W.heap.size ≤ b.gd) (hgl : W.heap.size ≤ b.gl)
    (hM : Mine x base A 512 c l) (hb : Below W.heap.size W x)
    (w1 : Disk x' gs ⟨b.gd, b.cd, b.gl, b.cl, .slice none 0 0⟩ (applied pend dur) [] nw (less ((k - i : Nat) : Int))) (ho : OnlyAt x x' (fun k => k = gs ∨ k = b.gd ∨ k = b.gl)) : LimR W base gs k N c A l (.int .i64 ((i + 1 : Nat) : Int)) x' := by
  refine ⟨i + 1, ⟨b.gd, b.cd, b.gl, b.cl, .slice none 0 0⟩, applied pend dur, [], nw, by omega, rfl, ?_, by rw [applied_length]; exact h4, by simp, by omega, by omega, fun _ => rfl, hgd, hgl, (fun g hg => by cases hg), hM.disk hD ho (fun k hk => ?_), hb.trans (ho.below (fun k hk => ?_) hb.size)⟩
  · rw [← less_step hk]
    exact w1
  · rcases hk with h | h | h
    · exact .inl h
    · exact .inr (.inl h)
    · exact .inr (.inr (.inl h))
  · omega
end Go.Proofs.Ytalpippeelomjaa
namespace Go.Proofs.Ytalpippeelomjaa
open Go.RowKit
set_option linter.unusedSimpArgs false
set_option linter.unusedVariables false

set_option maxRecDepth 100000 in
set_option maxHeartbeats 2000000 in
theorem read_any {w : World} {gs : Nat} {b : DB} {dur : List (List Nat)} {pend : List (Nat × List Nat)} {nw bud : Int} (h : Disk w gs b dur pend nw bud) (i : Nat) (hi : i < dur.length) (s : List Nat) (hs : (applied pend dur)[i]? = some s) :
    Calls Try.prog 37 #[.pointer (some ⟨gs, 0, none⟩), .int .i64 (i : Int)] w fun e w' => ∃ g, e = .returned (.tuple #[.slice (some ⟨g, 0, none⟩) 512 512, .int .i64 0]) ∧ Mine w' w.heap.size (some ⟨g, 0, none⟩) 512 512 s ∧ Below w.heap.size w w' := by
  have hsec : IsSec s := applied_sec h.sec (fun p hp => (h.wri p hp).2) s (List.mem_of_getElem? hs)
  obtain ⟨Z, hZ⟩ : ∃ Z, Z = byt noughts := ⟨_, rfl⟩
  have hZl : Z.length = 512 := by rw [hZ, byt_length, noughts_length]
  obtain ⟨S, hS⟩ : ∃ S, S = byt s := ⟨_, rfl⟩
  have hSl : S.length = 512 := by rw [hS, byt_length, hsec.1]
  have hmk : ∀ w : World, (Instr.makeSlice 43 (.int .i64 512) (.int .i64 512)).run Try.prog w = .ok (.slice (some ⟨w.heap.size, 0, none⟩) 512 512) (w.alloc (.cells Z.toArray 5)) := by rw [hZ]; exact run_make512
  have HH := hide (has_yes h i hi)
  have hb := (Below.refl w.heap.size w).alloc (Nat.le_refl _) (.cells Z.toArray 5)
  have HC := hide (current_any (h.below hb) i hi s hs)
  rw [← hS] at HC
  have HS := Lib.hid hS
  have HB := Lib.hid hb
  have HSec := Lib.hid hsec
  have HSl := Lib.hid hSl
  have HZl := Lib.hid hZl
  have HI1 : Hid ((Try.prog.info? 5).map (·.size) = some 1) := by
    show (Try.prog.info? 5).map (·.size) = some 1
    kernel_rfl
  have HO : Hid (∀ v ∈ S, v.oneCell' = true) := by rw [hS]; exact one_byt s
  clear h hs hsec hZ hS hSl hZl hb
  go_enter Try.func37, Try.ntmps37
  go_wp2_with (first
    | (go_at_call 60; (with_reducible refine (unhide HH).mono ?_); rintro e w' ⟨rfl, rfl⟩)
    | (go_at_call 62; (with_reducible refine (unhide HC).mono ?_); rintro e w' ⟨g, o, rfl, rfl, hR⟩)
    | (refine wpList_copy_new rfl _ _ 43 43 rfl 5 Try.underlying43 HI1.out 0 512 512 ⟨g, o, none⟩ 512 512 rfl rfl Z 5 S (by rw [HSl.out]; rfl) (fun j v hj => by rw [Addr.add_mid]; exact hR j v hj) (by rw [HSl.out, HZl.out]; omega) HO.out S (by rw [HSl.out, List.drop_of_length_le (by rw [HZl.out]; omega), List.append_nil, List.take_zero, List.nil_append]) ?_))
  go_ret2
  have hl : (byt s).length = 512 := by rw [byt_length, HSec.out.1]
  refine ⟨w.heap.size, rfl, ⟨⟨by rw [hl], .inr ⟨w.heap.size, 512, S.toArray, rfl, Nat.le_refl _, Go.heap_alloc_new w _, Nat.le_refl _, ?_, ?_, ?_⟩⟩, HSec.out.1.symm, HSec.out.2⟩, (Below.refl _ _).alloc (Nat.le_refl _) _⟩
  all_goals (try rw [HS.out])
  all_goals first
    | (rw [List.size_toArray, hl])
    | (rw [List.take_of_length_le (by rw [hl]; omega)])
    | (simp [hl]; done)
    | (exact fun v hv => one_byt s v (by simpa using hv))
    | (unfold maxLen; omega)
end Go.Proofs.Ytalpippeelomjaa
