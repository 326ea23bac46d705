/- Contract: what Read answers of a sector that is there: its bytes in memory of one's own. -/
import Derived.Test.YtmhhcblgeellnaaApart
namespace Go.Proofs.Ytmhhcblgeellnaa
open Go.RowKit
set_option linter.unusedSimpArgs false
set_option linter.unusedVariables false

set_option maxRecDepth 100000 in
set_option maxHeartbeats 2000000 in
theorem read_any {w : World} {gs : Nat} {b : DB} {dur : List (List Nat)} {pend : List (Nat × List Nat)} {nw bud : Int} (h : Disk w gs b dur pend nw bud) (i : Nat) (hi : i < dur.length) (s : List Nat) (hs : (applied pend dur)[i]? = some s) :
    Calls Try.prog 21 #[.pointer (some ⟨gs, 0, none⟩), .int .i64 (i : Int)] w fun e w' => ∃ g, e = .returned (.tuple #[.slice (some ⟨g, 0, none⟩) 512 512, .int .i64 0]) ∧ Mine w' w.heap.size (some ⟨g, 0, none⟩) 512 512 s ∧ Below w.heap.size w w' := by
  have hsec : IsSec s := applied_sec h.sec (fun p hp => (h.wri p hp).2) s (List.mem_of_getElem? hs)
  obtain ⟨Z, hZ⟩ : ∃ Z, Z = byt noughts := ⟨_, rfl⟩
  have hZl : Z.length = 512 := by rw [hZ, byt_length, noughts_length]
  obtain ⟨S, hS⟩ : ∃ S, S = byt s := ⟨_, rfl⟩
  have hSl : S.length = 512 := by rw [hS, byt_length, hsec.1]
  have hmk : ∀ w : World, (Instr.makeSlice 30 (.int .i64 512) (.int .i64 512)).run Try.prog w = .ok (.slice (some ⟨w.heap.size, 0, none⟩) 512 512) (w.alloc (.cells Z.toArray 5)) := by rw [hZ]; exact run_make512
  have HH := hide (has_yes h i hi)
  have hb := (Below.refl w.heap.size w).alloc (Nat.le_refl _) (.cells Z.toArray 5)
  have HC := hide (current_any (h.below hb) i hi s hs)
  rw [← hS] at HC
  have HS := Lib.hid hS
  have HB := Lib.hid hb
  have HSec := Lib.hid hsec
  have HSl := Lib.hid hSl
  have HZl := Lib.hid hZl
  have HI1 : Hid ((Try.prog.info? 5).map (·.size) = some 1) := by
    show (Try.prog.info? 5).map (·.size) = some 1
    kernel_rfl
  have HO : Hid (∀ v ∈ S, v.oneCell' = true) := by rw [hS]; exact one_byt s
  clear h hs hsec hZ hS hSl hZl hb
  go_enter Try.func21, Try.ntmps21
  go_wp2_with (first
    | (go_at_call 36; (with_reducible refine (unhide HH).mono ?_); rintro e w' ⟨rfl, rfl⟩)
    | (go_at_call 38; (with_reducible refine (unhide HC).mono ?_); rintro e w' ⟨g, o, rfl, rfl, hR⟩)
    | (refine wpList_copy_new rfl _ _ 30 30 rfl 5 Try.underlying30 HI1.out 0 512 512 ⟨g, o, none⟩ 512 512 rfl rfl Z 5 S (by rw [HSl.out]; rfl) (fun j v hj => by rw [Addr.add_mid]; exact hR j v hj) (by rw [HSl.out, HZl.out]; omega) HO.out S (by rw [HSl.out, List.drop_of_length_le (by rw [HZl.out]; omega), List.append_nil, List.take_zero, List.nil_append]) ?_))
  go_ret2
  have hl : (byt s).length = 512 := by rw [byt_length, HSec.out.1]
  refine ⟨w.heap.size, rfl, ⟨⟨by rw [hl], .inr ⟨w.heap.size, 512, S.toArray, rfl, Nat.le_refl _, Go.heap_alloc_new w _, Nat.le_refl _, ?_, ?_, ?_⟩⟩, HSec.out.1.symm, HSec.out.2⟩, (Below.refl _ _).alloc (Nat.le_refl _) _⟩
  all_goals (try rw [HS.out])
  all_goals first
    | (rw [List.size_toArray, hl])
    | (rw [List.take_of_length_le (by rw [hl]; omega)])
    | (simp [hl]; done)
    | (exact fun v hv => one_byt s v (by simpa using hv))
    | (unfold maxLen; omega)
end Go.Proofs.Ytmhhcblgeellnaa
