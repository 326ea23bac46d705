/- Seal, Open: joined by program (tools/merge.py). -/
import Derived.Test.YtalpippeelomjaaZ4
import Derived.Deep.QuietTactic
import Derived.BigQuiet
import Derived.Laws.BitsAllLaws
namespace Go.Proofs.Ytalpippeelomjaa
open Go.RowKit

/-- A sum's four bytes, the lowest first. -/
def le4 (s : Nat) : List Nat := [s % 256, s / 256 % 256, s / 65536 % 256, s / 16777216 % 256]
theorem le4_small (s : Nat) : ∀ b ∈ le4 s, b < 256 := by
  intro b hb
  simp [le4] at hb
  omega
theorem le4_next (s k : Nat) (hk : k < 4) : (le4 s).take (k + 1) = (le4 s).take k ++ [s / 2 ^ (8 * k) % 256] := by
  match k, hk with
  | 0, _ => simp [le4]
  | 1, _ => simp [le4]
  | 2, _ => simp [le4]
  | 3, _ => simp [le4]

theorem crc_lt (l : List Nat) : crc l < 4294967296 := by unfold crc; omega
def SealR (w : World) (l : List Nat) (s : Nat) (v i : Value) (wr : World) : Prop :=
  ∃ k : Nat, k ≤ 4 ∧ i = .int .i64 (k : Int) ∧ Own wr (w.heap.size + 1) v (l ++ (le4 s).take k) ∧ Below w.heap.size w wr
theorem seal_next {w : World} {base N k s : Nat} {v : Value} {l : List Nat} (hk : k < 4)
    (h : w.ownsRow base 5 1 v N (byt (l ++ (le4 s).take k) ++ [.int .u8 ((s : Int) / 2 ^ (8 * k) % 256)])) : Own w base v (l ++ (le4 s).take (k + 1)) := by
  have e : byt (l ++ (le4 s).take k) ++ [.int .u8 ((s : Int) / 2 ^ (8 * k) % 256)] = byt (l ++ (le4 s).take (k + 1)) := by
    rw [le4_next s k hk, ← List.append_assoc, byt_append (l ++ (le4 s).take k)]
    congr 1
  rw [e] at h
  exact own_of_row h
theorem own_lower {w : World} {base base' : Nat} {v : Value} {l : List Nat} (h : Own w base v l) (hb : base' ≤ base) : Own w base' v l := by
  obtain ⟨hl, hv⟩ := id h
  refine ⟨hl, ?_⟩
  rcases hv with hv | ⟨g, cap, cur, rfl, h1, h2⟩
  · exact .inl hv
  · exact .inr ⟨g, cap, cur, rfl, Nat.le_trans hb h1, h2⟩

set_option maxRecDepth 100000 in
set_option maxHeartbeats 1000000 in
theorem seal_core {C : List Value} (hC : Table C) (w : World) (A : Option Addr) (n c : Nat) (l : List Nat) (hp : Bytes w w.heap.size (.slice A n c) l) (hlong : l.length ≤ 1048576) :
    Calls Try.prog 97 #[.agg C.toArray, .slice A n c] w fun e w' => ∃ u, e = .returned u ∧ Own w' w.heap.size u (l ++ le4 (crc l)) ∧ Below w.heap.size w w' := by
  obtain ⟨i0, hi0, hz0, hz1, hz2⟩ := info_parts infoByte
  have hn : n = l.length := by
    obtain ⟨⟨A1, c1, hv, _⟩, _, _⟩ := hp
    injection hv
  have hn3 : n ≤ 1048576 := by omega
  have HN := Lib.hid hn
  have HI := Lib.hid hi0
  have H0 := Lib.hid hz0
  have H1 := Lib.hid hz1
  have H2 := Lib.hid hz2
  have hR := range_new w C 141
  have hP : Bytes (w.alloc (.cells C.toArray 141)) w.heap.size (.slice A n c) l := hp.below ((Below.refl _ _).alloc (Nat.le_refl _) _)
  have hbW : Below w.heap.size w (w.alloc (.cells C.toArray 141)) := (Below.refl _ _).alloc (Nat.le_refl _) _
  have HP := Lib.hid hP
  have HR := Lib.hid hR
  have HbW := Lib.hid hbW
  have hund := Lib.hid tabL_under
  have hC2 := hC
  clear hn hi0 hz0 hz1 hz2 hp hR hP hbW
  go_enter Try.func97, Try.ntmps97
  go_wp2_with (at_make; refine wpList_make_own _ rfl _ _ 43 rfl (w.heap.size + 1) 5 i0 (.int .u8 0) 1 Try.underlying43 HI.out H0.out H1.out _ _ _ (n + 4) rfl rfl (by omega) ?b1 ?b2 ?b3 ?_)
  case b1 => rw [H2.out]; omega
  case b2 => unfold maxLen; omega
  case b3 => simp
  intro w1 hown1 hg1
  have hb1 : Below (w.heap.size + 1) (w.alloc (.cells C.toArray 141)) w1 := (Below.refl _ _).grown hg1 (by simp) (fun _ h => by cases h)
  have HR1 := Lib.hid (range_below HR.out hb1 (by omega))
  have HP1 := Lib.hid (HP.out.below (hb1.mono (by omega)))
  have HB1 := Lib.hid (HbW.out.trans (hb1.mono (by omega)))
  have HS1 : w.heap.size + 1 ≤ w1.heap.size := by have := hb1.size; simpa using this
  clear HR HP HbW hb1 hg1
  go_wp2_with (at_builtin; refine wpList_append_bytes rfl _ _ 43 rfl (w.heap.size + 1) 5 i0 (.int .u8 0) Try.underlying43 HI.out H0.out H1.out H2.out rfl _ 0 [] rfl hown1 A n c w.heap.size l rfl HP1.out ?d3 HS1 ?_)
  case d3 => omega
  intro v2 w2 hown2 hg2
  have hb2 := (Below.refl (w.heap.size + 1) w1).grown hg2 HS1 (fun g hg => (World.ownsRow.lt hown1 g hg).1)
  have HR2 := range_below HR1.out hb2 (by omega)
  have HP2 := HP1.out.below (hb2.mono (by omega))
  have HB2 := HB1.out.trans (hb2.mono (by omega))
  have HS2 : w.heap.size + 1 ≤ w2.heap.size := Nat.le_trans HS1 hb2.size
  have HO2 := Lib.hid (own_of_row hown2)
  clear hown2 hown1 hg2 hb2 HR1 HP1 HB1
  have HPA := Lib.hid ((HP2.below ((Below.refl _ _).alloc (Nat.le_trans (by omega) HS2) (.cells #[.slice A n c] 43))))
  have HSA : w.heap.size ≤ (w2.alloc (.cells #[.slice A n c] 43)).heap.size := by simp; omega
  go_wp2_with (first
    | refine wpList_load_mid rfl 141 _ rfl w.heap.size 0 rfl C _ HR2 hund.out rfl hC2.info ?_
    | (go_at_call 100; (with_reducible refine (sum_one (v := .slice A n c) (q := l) (B := w.heap.size) hC2 (Go.heap_alloc_new w2 _) HPA.out HSA).mono ?_); rintro e w' ⟨rfl, rfl⟩))
  have hO3 : Own ((w2.alloc (.cells #[.slice A n c] 43)).alloc (.cells C.toArray 141)) (w.heap.size + 1) v2 l := World.ownsRow.alloc (World.ownsRow.alloc HO2.out _) _
  have hB3 : Below w.heap.size w ((w2.alloc (.cells #[.slice A n c] 43)).alloc (.cells C.toArray 141)) := (HB2.alloc (by omega) _).alloc HSA _
  have HO3 := Lib.hid hO3
  have HB3 := Lib.hid hB3
  have hs := crc_lt l
  clear HB2 hO3 hB3 HR2 HP2 HPA HSA HO2 HS2 HS1 hC2
  obtain ⟨s, hs2⟩ : ∃ s, s = crc l := ⟨_, rfl⟩
  rw [← hs2] at hs ⊢
  have HSC := Lib.hid hs2
  clear hs2
  go_loopw [5, 19] (fun v i wr => SealR w l s v i wr) (fun _ i _ => 4 - (intOf i).toNat)
  case atStart => exact ⟨0, by omega, rfl, by rw [List.take_zero, List.append_nil]; exact HO3.out, HB3.out⟩
  case round =>
    obtain ⟨k, hk, rfl, hown, hb⟩ := hrel
    by_cases hlt : k < 4
    · go_wp2_with (at_builtin; refine wpList_append_own _ rfl _ _ 43 rfl (w.heap.size + 1) 5 i0 (.int .u8 0) 1 1 Try.underlying43 HI.out H0.out H1.out H2.out rfl (by decide) _ _ _ rfl (World.ownsRow.alloc hown _) ⟨_, 0, none⟩ 1 1 [.int .u8 ((s : Int) / 2 ^ (8 * k) % 256)] rfl rfl ?c1 ?c2 ?c3 ?c4 ?c5 ?_)
      case c1 => exact cell_one_new _ _
      case c2 => simp [Value.oneCell']
      case c3 => rw [List.length_append, List.length_take]; unfold maxLen; omega
      case c4 => rw [List.length_append, List.length_take]; omega
      case c5 => have := (World.ownsRow.alloc hown (.cells #[.int .u8 ((s : Int) / 2 ^ (8 * k) % 256)] 5)); have := hb.size; simp; omega
      intro v' w1 hown1 hg1 _
      have hbel := (hb.alloc hb.size _).grown hg1 (by have := hb.size; simp; omega) (fun g hg => by have := (World.ownsRow.lt hown g hg).1; omega)
      have HO2 := Lib.hid (seal_next hlt hown1)
      have HB := Lib.hid hbel
      clear hown1 hbel hg1 hown hb
      go_wp2
      go_roundw
      case rel => exact ⟨k + 1, by omega, by go_num, HO2.out, HB.out⟩
      case measure => simp [intOf]; omega
    · go_wp2
      go_ret
      refine ⟨_, rfl, ?_, hb⟩
      obtain rfl : k = 4 := by omega
      rw [← HSC.out]
      exact own_lower hown (by omega)
theorem seal_any {C : List Value} (hC : Table C) (w : World) (A : Option Addr) (n c : Nat) (l : List Nat) (hp : Bytes w w.heap.size (.slice A n c) l) (hlong : l.length ≤ 1048576) :
    Calls Try.prog 97 #[.agg C.toArray, .slice A n c] w fun e w' => ∃ A2 n2 c2, e = .returned (.slice A2 n2 c2) ∧ Mine w' w.heap.size A2 n2 c2 (l ++ le4 (crc l)) ∧ Below w.heap.size w w' :=
  (seal_core hC w A n c l hp hlong).mono fun e w' ⟨u, he, ho, hb⟩ => by
    obtain ⟨A2, n2, c2, rfl, hM⟩ := Mine.of_own ho (fun b hb => by
      rcases List.mem_append.1 hb with h | h
      · exact hp.small b h
      · exact le4_small _ b h)
    exact ⟨A2, n2, c2, he, hM, hb⟩
end Go.Proofs.Ytalpippeelomjaa
namespace Go.Proofs.Ytalpippeelomjaa
open Go.RowKit

/-- The number that bytes are, the lowest first. -/
def val : List Nat → Nat
  | [] => 0
  | b :: r => b + 256 * val r
theorem val_snoc (l : List Nat) (b : Nat) : val (l ++ [b]) = val l + 256 ^ l.length * b := by
  induction l with
  | nil => simp [val]
  | cons x l ih =>
    rw [List.cons_append, val, val, ih, List.length_cons, Nat.pow_succ, Nat.mul_add, Nat.mul_comm (256 ^ l.length) 256, Nat.mul_assoc]
    omega
theorem val_lt (l : List Nat) (h : ∀ b ∈ l, b < 256) : val l < 256 ^ l.length := by
  induction l with
  | nil => simp [val]
  | cons x l ih =>
    have h1 := h x (by simp)
    have h2 := ih (fun b hb => h b (by simp [hb]))
    rw [val, List.length_cons, Nat.pow_succ]
    omega
theorem val_le4 (s : Nat) (h : s < 4294967296) : val (le4 s) = s := by
  simp [val, le4]
  omega
theorem val_four (d : List Nat) (hd : d.length = 4) (hs : ∀ b ∈ d, b < 256) (s : Nat) (h : val d = s) : le4 s = d := by
  match d, hd with
  | [a, b, c, e], _ =>
    have h1 := hs a (by simp)
    have h2 := hs b (by simp)
    have h3 := hs c (by simp)
    have h4 := hs e (by simp)
    simp [val] at h
    simp [le4]
    omega
theorem or_add (s b k : Nat) (hs : s < 256 ^ k) (hb : b < 256) (hk : k < 4) : bits .or .u32 (s : Int) ((b * 2 ^ (8 * k) : Nat) : Int) = ((s + 256 ^ k * b : Nat) : Int) := by
  have e : 2 ^ (8 * k) = 256 ^ k := by rw [Nat.pow_mul]
  have e3 : (256 : Nat) ^ 3 * 256 = 4294967296 := by simp
  have h4 : 256 ^ k * 256 ≤ 4294967296 := by
    rw [← e3]
    exact Nat.mul_le_mul_right _ (Nat.pow_le_pow_right (by omega) (by omega))
  have hb2 : 256 ^ k * b < 4294967296 := Nat.lt_of_lt_of_le (Nat.mul_lt_mul_of_pos_left hb (Nat.pow_pos (by decide))) h4
  have hs2 : s < 4294967296 := by omega
  rw [e, Nat.mul_comm b, u32_or_nat s _ hs2 hb2]
  have h := Nat.two_pow_add_eq_or_of_lt (i := 8 * k) (b := s) (by rw [e]; exact hs) b
  rw [e] at h
  rw [Nat.or_comm, ← h, Nat.add_comm]

theorem or_next {s b k : Nat} {d : List Nat} (hk : k < 4) (hs : s < 256 ^ k) (hb : b < 256) (hd : d[k]? = some b) (hl : d.length = 4) (hv : s = val (d.take k)) :
    ∃ k2 s2 : Nat, k2 ≤ 4 ∧ Value.int .i64 ((k : Int) + 1) = .int .i64 (k2 : Int) ∧ Value.int .u32 (bits .or .u32 (s : Int) ((b : Int) * 2 ^ (8 * k) % 4294967296)) = .int .u32 (s2 : Int) ∧ s2 < 256 ^ k2 ∧ s2 = val (d.take k2) := by
  refine ⟨k + 1, s + 256 ^ k * b, by omega, by go_num, ?_, ?_, ?_⟩
  · rw [← or_add s b k hs hb hk]
    have e : 2 ^ (8 * k) = 256 ^ k := by rw [Nat.pow_mul]
    have h1 : b * 2 ^ (8 * k) < 4294967296 := by
      have h2 : 256 ^ k * 256 ≤ 4294967296 := by
        rw [show (4294967296 : Nat) = 256 ^ 3 * 256 by simp]
        exact Nat.mul_le_mul_right _ (Nat.pow_le_pow_right (by omega) (by omega))
      rw [e, Nat.mul_comm]
      exact Nat.lt_of_lt_of_le (Nat.mul_lt_mul_of_pos_left hb (Nat.pow_pos (by omega))) h2
    have h3 : (b : Int) * 2 ^ (8 * k) = ((b * 2 ^ (8 * k) : Nat) : Int) := by simp
    rw [h3, Int.emod_eq_of_lt (by omega) (by omega)]
  · have h1 : 256 ^ k * b + 256 ^ k ≤ 256 ^ k * 256 := by
      rw [← Nat.mul_succ]
      exact Nat.mul_le_mul_left _ (by omega)
    rw [Nat.pow_succ]
    omega
  · rw [List.take_add_one, hd]
    show _ = val (d.take k ++ [b])
    rw [val_snoc, ← hv, List.length_take, hl, Nat.min_eq_left (by omega)]

theorem own_setRow {w : World} {g base m : Nat} {cur : Array Value} {t : TypeId} (hg : w.heap[g]? = some (.cells cur t (0, 0))) (cs : List Value) (hl : cs.length = m) (hm : m ≤ maxLen) (hb : base ≤ g) :
    (w.setRow g cs.toArray).ownsRow base t 1 (.slice (some ⟨g, 0, none⟩) m m) m cs :=
  ⟨by omega, .inr ⟨g, m, cs.toArray, rfl, hb, setRow_heap w g cur cs.toArray t (0, 0) hg, Nat.le_refl _, hm, by simp; omega, by rw [← hl]; simp⟩⟩

def OpenR (d : List Nat) (st i : Value) : Prop :=
  ∃ k s : Nat, k ≤ 4 ∧ i = .int .i64 (k : Int) ∧ st = .int .u32 (s : Int) ∧ s < 256 ^ k ∧ s = val (d.take k)

/-- What Open leaves where there are four bytes. -/
def OpenPost (good : Bool) (m : Nat) (l : List Nat) (w : World) (e : Ending) (w' : World) : Prop := Below w.heap.size w w' ∧
  if good then ∃ A2 n2 c2, e = .returned (.tuple #[.slice A2 n2 c2, .int .i64 0]) ∧ Mine w' w.heap.size A2 n2 c2 (l.take m) else e = .returned (.tuple #[.slice none 0 0, .int .i64 7])

theorem open_short {C : List Value} (w : World) (A : Option Addr) (n c : Nat) (hn : n < 4) :
    Calls Try.prog 91 #[.agg C.toArray, .slice A n c] w fun e w' => e = .returned (.tuple #[.slice none 0 0, .int .i64 2]) ∧ Below w.heap.size w w' := by
  have hn2 : (n : Int) < 4 := by omega
  go_enter Try.func91, Try.ntmps91
  go_wp2
  go_ret2
  exact ⟨rfl, (Below.refl _ _).alloc (Nat.le_refl _) _⟩

set_option maxRecDepth 100000 in
set_option maxHeartbeats 1000000 in
/-- Where there are four bytes: what comes of the last four. -/
theorem open_core {C : List Value} (hC : Table C) (w : World) (A : Option Addr) (n m c : Nat) (l : List Nat) (hp : Bytes w w.heap.size (.slice A n c) l) (hm : n = m + 4) (hlong : n ≤ 1048576) (good : Bool) (hgood : decide (val (l.drop m) = crc (l.take m)) = good) :
    Calls Try.prog 91 #[.agg C.toArray, .slice A n c] w (OpenPost good m l w) := by
  obtain ⟨i0, hi0, hz0, hz1, hz2⟩ := info_parts infoByte
  have hn : n = l.length := by
    obtain ⟨⟨A1, c1, hv, _⟩, _, _⟩ := hp
    injection hv
  have hmc : m + 4 ≤ c := by have := hp.cap; omega
  obtain ⟨ad, hA⟩ : ∃ ad, A = some ad := by
    obtain ⟨⟨A1, c1, hv, hl, _⟩, _, _⟩ := hp
    injection hv with h1 h2 h3
    obtain ⟨ad, h, _⟩ := hl 0 (.int .u8 ((l[0]'(by omega) : Nat) : Int)) (by rw [byt_at, List.getElem?_eq_getElem (by omega)]; rfl)
    exact ⟨ad, by rw [h1, h]⟩
  subst hA
  have HP : Bytes (w.alloc (.cells C.toArray 141)) w.heap.size (.slice (some ad) n c) l := hp.below ((Below.refl _ _).alloc (Nat.le_refl _) _)
  have HR := range_new w C 141
  have hn4 : (n : Int) - 4 = (m : Int) := by omega
  have hnm : n - m = 4 := by omega
  have hcm : ¬ c = m := by omega
  have hge : ¬ (n : Int) < 4 := by omega
  have h0m : (0 : Int) ≤ (m : Int) := by omega
  have hmc2 : (m : Int) ≤ (c : Int) := by omega
  have hmn2 : (m : Int) ≤ (n : Int) := by omega
  have HG := Lib.hid hgood
  have HN := Lib.hid hn
  have HM := Lib.hid hm
  have HI := Lib.hid hi0
  have H0 := Lib.hid hz0
  have H1 := Lib.hid hz1
  have H2 := Lib.hid hz2
  clear hgood hn hm hi0 hz0 hz1 hz2
  go_enter Try.func91, Try.ntmps91
  go_wp2
  go_quiet (fail)
  go_wp2
  obtain ⟨d, hd⟩ : ∃ d, d = l.drop m := ⟨_, rfl⟩
  have hdl : d.length = 4 := by rw [hd, List.length_drop, ← HN.out]; exact hnm
  have hds : ∀ b ∈ d, b < 256 := fun b hb => HP.small b (List.mem_of_mem_drop (by rw [hd] at hb; exact hb))
  have hcell : ∀ (k b : Nat), d[k]? = some b → ((w.alloc (.cells C.toArray 141)).drewN nq).cell? ((ad.add m).add k) = some (.int .u8 (b : Int)) := fun k b hb => by
    obtain ⟨⟨A1, c1, hv, hl, _⟩, _, _⟩ := HP
    injection hv with h1 h2 h3
    rw [← h1] at hl
    rw [addr_add_add]
    exact hl.cells (m + k) _ (by rw [byt_at, ← List.getElem?_drop, ← hd, hb]; rfl)
  have HD := Lib.hid hd
  have HDL := Lib.hid hdl
  have HDS := Lib.hid hds
  have HCE := Lib.hid hcell
  have HP1 := HP.first (k := m) (by omega)
  have HbW : Below w.heap.size w ((w.alloc (.cells C.toArray 141)).drewN nq) := below_drewN ((Below.refl _ _).alloc (Nat.le_refl _) _) nq
  have HR2 : ((w.alloc (.cells C.toArray 141)).drewN nq).rangeAt w.heap.size 0 C := HR
  have HP2 : Bytes ((w.alloc (.cells C.toArray 141)).drewN nq) w.heap.size (.slice (some ad) m c) (l.take m) := HP1.of_cells fun _ _ => rfl
  clear hd hdl hds hcell HP1 HP HR
  have HWS : w.heap.size + 1 ≤ ((w.alloc (.cells C.toArray 141)).drewN nq).heap.size := by simp
  obtain ⟨W, hW⟩ : ∃ W, W = (w.alloc (.cells C.toArray 141)).drewN nq := ⟨_, rfl⟩
  rw [← hW] at HCE HbW HR2 HP2 HWS ⊢
  clear hW
  go_loop [8, 24] (fun st i => OpenR d st i) (fun _ i => 4 - (intOf i).toNat)
  case atStart => exact ⟨0, 0, by omega, rfl, rfl, by decide, rfl⟩
  case round =>
    obtain ⟨k, s, hk, rfl, rfl, hs, hval⟩ := hrel
    have HV := Lib.hid hval
    clear hval
    by_cases hlt : k < 4
    · obtain ⟨b, hb⟩ : ∃ b, d[k]? = some b := ⟨_, List.getElem?_eq_getElem (by rw [HDL.out]; exact hlt)⟩
      have hb2 : b < 256 := HDS.out b (List.mem_of_getElem? hb)
      have hc := HCE.out k b hb
      have hor := or_add s b k hs hb2 hlt
      have Hb := Lib.hid hb
      clear hb
      clear hor
      go_wp2
      go_round
      case rel =>
        obtain ⟨k2, s2, h1, h2, h3, h4, h5⟩ := or_next hlt hs hb2 Hb.out HDL.out HV.out
        exact ⟨k2, s2, h1, h2, h3, h4, h5⟩
      case measure => simp [intOf]; omega
    · have hsv : s = val d := by
        rw [HV.out, List.take_of_length_le (by rw [HDL.out]; omega)]
      have Hsv := Lib.hid hsv
      obtain ⟨bd, hbd⟩ : ∃ bd, bd = l.take m := ⟨_, rfl⟩
      rw [← hbd] at HP2
      have HBD := Lib.hid hbd
      clear hbd
      have hcr := crc_lt bd
      have HPA := Lib.hid (HP2.below ((Below.refl _ _).alloc (Nat.le_trans (by omega) HWS) (.cells #[.slice (some ad) m c] 43)))
      have HSA : w.heap.size ≤ (W.alloc (.cells #[.slice (some ad) m c] 43)).heap.size := by simp; omega
      have hC2 := hC
      have hund := Lib.hid tabL_under
      clear hsv hge hn4 hnm hcm
      by_cases hgd : s = crc bd
      · have heq : ((s : Int) != ((crc bd : Nat) : Int)) = false := by simp; omega
        have hn0 : (0 : Int) ≤ (m : Int) := by omega
        have hY : Below w.heap.size w ((W.alloc (.cells #[.slice (some ad) m c] 43)).alloc (.cells C.toArray 141)) := (HbW.alloc (by omega) _).alloc HSA _
        have hYP : Bytes ((W.alloc (.cells #[.slice (some ad) m c] 43)).alloc (.cells C.toArray 141)) w.heap.size (.slice (some ad) m c) bd := HPA.out.below ((Below.refl _ _).alloc HSA _)
        have HY := Lib.hid hY
        have HYP := Lib.hid hYP
        have hbd3 : bd.length = m := by
          rw [HBD.out, List.length_take, ← HN.out]
          omega
        have HBL := Lib.hid hbd3
        clear hY hYP hbd3
        go_wp2_with (first
          | refine wpList_load_mid rfl 141 _ rfl w.heap.size 0 rfl C _ HR2 hund.out rfl hC2.info ?_
          | (go_at_call 100; (with_reducible refine (sum_one (v := .slice (some ad) m c) (q := bd) (B := w.heap.size) hC2 (Go.heap_alloc_new W _) HPA.out HSA).mono ?_); rintro e w' ⟨rfl, rfl⟩)
          | (at_make; refine wpList_make_full _ rfl _ _ 43 rfl w.heap.size 5 i0 (.int .u8 0) 1 Try.underlying43 HI.out H0.out H1.out _ _ _ _ m rfl rfl rfl rfl ?b1 ?b2 ?b3 ?_))
        case b1 => rw [H2.out]; omega
        case b2 => unfold maxLen; omega
        case b3 => exact HY.out.size
        intro w2 hown2 hg2
        obtain ⟨cur, hcur, hcs⟩ : ∃ cur, w2.heap[W.heap.size + 1 + 1]? = some (.cells cur 5 (0, 0)) ∧ cur.size = m := by
          obtain ⟨_, ⟨h1, _⟩ | ⟨g, cap, cur, h1, _, h2, _, _, h3, _⟩⟩ := hown2
          · cases h1
          · injection h1 with h4 h5 h6
            injection h4 with h4
            injection h4 with h4
            subst h4 h6
            exact ⟨cur, h2, by omega⟩
        have hb2 := HY.out.grown hg2 HY.out.size (fun _ h => by cases h)
        have hP2 := HYP.out.below ((Below.refl w.heap.size _).grown hg2 HY.out.size (fun _ h => by cases h))
        have hlies : ∀ j u, (byt bd)[j]? = some u → w2.cell? (ad.add j) = some u := by
          obtain ⟨⟨A1, c1, hv, hl, _⟩, _, _⟩ := hP2
          injection hv with h1 h2 h3
          rw [← h1] at hl
          exact hl.cells
        have HCU := Lib.hid hcur
        have HB2 := Lib.hid hb2
        have HLI := Lib.hid hlies
        have HCS := Lib.hid hcs
        have hinfo1 : (Try.prog.info? 5).map (·.size) = some 1 := by kernel_rfl
        have HI1 := Lib.hid hinfo1
        clear hown2 hg2 hcur hb2 hP2 hlies hcs hinfo1
        go_wp2_with (refine wpList_copy_own rfl _ _ 43 43 rfl 5 Try.underlying43 HI1.out (W.heap.size + 1 + 1) 0 m m ad m c rfl rfl cur 5 HCU.out (byt bd) ?f1 HLI.out ?f2 (one_byt bd) ?_)
        case f1 => rw [byt_length, HBL.out]; exact (Nat.min_self m).symm
        case f2 => rw [byt_length, HBL.out, HCS.out]; omega
        go_ret2
        have hb2 : good = true := by
          rw [← HG.out]
          exact decide_eq_true (by rw [← HD.out, ← Hsv.out, ← HBD.out]; exact hgd)
        unfold OpenPost
        rw [hb2]
        refine ⟨below_setRow HB2.out (by omega) _, ?_⟩
        rw [if_pos rfl, ← HBD.out]
        refine ⟨_, _, _, rfl, ?_, HBL.out.symm, HP2.small⟩
        have e : byt bd ++ cur.toList.drop (byt bd).length = byt bd := by
          rw [byt_length, HBL.out, List.drop_of_length_le (by rw [Array.length_toList, HCS.out]; omega), List.append_nil]
        rw [e]
        exact own_setRow HCU.out (byt bd) (by rw [byt_length, HBL.out]) (by unfold maxLen; omega) (by omega)
      · have hne : ((s : Int) != ((crc bd : Nat) : Int)) = true := by simp; omega
        go_wp2_with (first
          | refine wpList_load_mid rfl 141 _ rfl w.heap.size 0 rfl C _ HR2 hund.out rfl hC2.info ?_
          | (go_at_call 100; (with_reducible refine (sum_one (v := .slice (some ad) m c) (q := bd) (B := w.heap.size) hC2 (Go.heap_alloc_new W _) HPA.out HSA).mono ?_); rintro e w' ⟨rfl, rfl⟩))
        go_ret2
        have hb2 : good = false := by
          rw [← HG.out]
          exact decide_eq_false (by rw [← HD.out, ← Hsv.out, ← HBD.out]; exact hgd)
        unfold OpenPost
        rw [hb2]
        exact ⟨(HbW.alloc (by omega) _).alloc HSA _, rfl⟩
theorem open_good {C : List Value} (hC : Table C) (w : World) (A : Option Addr) (n c : Nat) (l : List Nat) (hp : Bytes w w.heap.size (.slice A n c) (l ++ le4 (crc l))) (hlong : n ≤ 1048576) :
    Calls Try.prog 91 #[.agg C.toArray, .slice A n c] w fun e w' => ∃ A2 n2 c2, e = .returned (.tuple #[.slice A2 n2 c2, .int .i64 0]) ∧ Mine w' w.heap.size A2 n2 c2 l ∧ Below w.heap.size w w' := by
  have hn : n = l.length + 4 := by
    obtain ⟨⟨A1, c1, hv, _⟩, _, _⟩ := hp
    injection hv with h1 h2 h3
    rw [h2, List.length_append]
    rfl
  have e1 : (l ++ le4 (crc l)).take l.length = l := List.take_left
  have e2 : (l ++ le4 (crc l)).drop l.length = le4 (crc l) := List.drop_left
  refine (open_core hC w A n l.length c _ hp hn hlong true (decide_eq_true (by rw [e1, e2]; exact val_le4 _ (crc_lt l)))).mono fun e w' ⟨hb, hx⟩ => ?_
  rw [if_pos rfl, e1] at hx
  obtain ⟨A2, n2, c2, he, hM⟩ := hx
  exact ⟨A2, n2, c2, he, hM, hb⟩
end Go.Proofs.Ytalpippeelomjaa
