/- The program's Unseal, without memory. The program's Unseal. The program's lines: cutLine; Has. The program's reader of the texts of files, without memory. The document's text: reading a spot: the reader, and the spot under way. -/
import Derived.Test.YtaelaldmibgibaaGreatDoorU11
import Derived.Lib.LastIndexByte
import Derived.Test.YtaelaldmibgibaaGreatDoorU05
import Derived.BigQuiet
import Derived.Deep.QuietTactic

set_option linter.unusedVariables false
set_option linter.unusedSimpArgs false

namespace Go.Proofs.YtaelaldmibgibaaGreatDoor
open Go.RowKit Go.Lib

theorem at_bs (s : ByteArray) (j : Nat) (hj : j < s.size) : (bs s)[j]? = some (s.data[j]!) := by
  unfold bs
  have h : j < s.data.size := hj
  rw [Array.getElem?_toList, Array.getElem?_eq_getElem h, getElem!_pos s.data j h]
theorem last_spec (u : ByteArray) : (lastIndexByte u 10 = -1 ∧ (10 : UInt8) ∉ bs u) ∨ ∃ a b, bs u = a ++ 10 :: b ∧ (10 : UInt8) ∉ b ∧ lastIndexByte u 10 = (a.length : Int) := by
  have ne : ∀ j, j < u.size → ((u.data[j]!).toNat : Int) ≠ 10 → (bs u)[j]? ≠ some 10 := fun j hj h q => by
    rw [at_bs u j hj] at q
    apply h
    rw [Option.some.inj q]
    rfl
  rcases lastIndexByte_spec u 10 with ⟨h1, h2⟩ | ⟨i, hi, h1, h2, h3⟩
  · refine .inl ⟨h1, fun q => ?_⟩
    obtain ⟨j, hj⟩ := List.getElem?_of_mem q
    have hjl := (List.getElem?_eq_some_iff.1 hj).1
    rw [bs_len] at hjl
    exact ne j hjl (h2 j hjl) hj
  · have hil : i < (bs u).length := by rw [bs_len]; exact hi
    have e10 : (bs u)[i] = 10 := by
      have := at_bs u i hi
      rw [List.getElem?_eq_getElem hil] at this
      have h4 := Option.some.inj this
      rw [h4]
      exact UInt8.toNat_inj.1 (Int.ofNat.inj h2)
    refine .inr ⟨(bs u).take i, (bs u).drop (i + 1), ?_, fun q => ?_, ?_⟩
    · conv => lhs; rw [← List.take_append_drop i (bs u), List.drop_eq_getElem_cons hil, e10]
    · obtain ⟨j, hj⟩ := List.getElem?_of_mem q
      rw [List.getElem?_drop] at hj
      have hjl := (List.getElem?_eq_some_iff.1 hj).1
      rw [bs_len] at hjl
      exact ne _ hjl (h3 _ (by omega) hjl) hj
    · rw [h1, List.length_take, Nat.min_eq_left (by omega)]

def trimT (t : ByteArray) : ByteArray := ofBs (trimSuffix (bs t) [10])
def endOf (t : ByteArray) : Nat := (lastIndexByte (trimT t) 10 + 1).toNat
theorem trimT_take (t : ByteArray) : ∃ k, k ≤ t.size ∧ bs (trimT t) = (bs t).take k := by
  unfold trimT
  rw [bs_ofBs]
  unfold trimSuffix
  split
  · exact ⟨(bs t).length - [(10 : UInt8)].length, by rw [bs_len]; omega, rfl⟩
  · exact ⟨t.size, Nat.le_refl _, by rw [← bs_len, List.take_length]⟩
theorem endOf_spec (t : ByteArray) : (endOf t : Int) = lastIndexByte (trimT t) 10 + 1 ∧ endOf t ≤ t.size ∧ ((bs t).take (endOf t) = [] ∨ ∃ a, (bs t).take (endOf t) = a ++ [10]) := by
  obtain ⟨k, hk, ek⟩ := trimT_take t
  unfold endOf
  rcases last_spec (trimT t) with ⟨h1, _⟩ | ⟨a, b, h1, _, h3⟩
  · rw [h1]
    exact ⟨rfl, Nat.zero_le _, .inl rfl⟩
  · rw [h3]
    have e : ((a.length : Int) + 1).toNat = a.length + 1 := by omega
    rw [e]
    have hl : a.length + 1 ≤ k := by
      have := congrArg List.length (ek.symm.trans h1)
      simp [bs_len] at this
      omega
    refine ⟨by omega, by omega, .inr ⟨a, ?_⟩⟩
    have : (bs t).take (a.length + 1) = (bs (trimT t)).take (a.length + 1) := by rw [ek, List.take_take, Nat.min_eq_left hl]
    rw [this, h1, show a ++ (10 : UInt8) :: b = (a ++ [10]) ++ b by simp]
    exact List.take_left' (by simp)
theorem lastT_form (b : Bs) : ∃ m, lastT b = m ++ [10] ∧ (10 : UInt8) ∉ m := by
  refine ⟨bs sumW ++ decDigits (sumL b), by unfold lastT; rw [List.append_assoc], fun q => ?_⟩
  rcases List.mem_append.1 q with q | q
  · revert q; decide
  · exact dig_no _ 10 (by decide) q
theorem trim_nl (x : Bs) : trimSuffix (x ++ [10]) [10] = x := by
  unfold trimSuffix hasSuffix
  rw [if_pos (by rw [List.isSuffixOf_iff_suffix]; exact List.suffix_append _ _)]
  simp
theorem app_last_inj (a b a' b' : Bs) (h : a ++ (10 : UInt8) :: b = a' ++ 10 :: b') (hb : (10 : UInt8) ∉ b) (hb' : (10 : UInt8) ∉ b') : a = a' := by
  have h2 := congrArg List.reverse h
  simp only [List.reverse_append, List.reverse_cons, List.append_assoc, List.singleton_append] at h2
  have k1 := idx_hit 10 b.reverse a.reverse (by simpa using hb)
  have k2 := idx_hit 10 b'.reverse a'.reverse (by simpa using hb')
  rw [h2, k2] at k1
  have hl : b.length = b'.length := by simp at k1; omega
  have h3 := congrArg List.length h
  simp at h3
  exact List.append_inj_left h (by omega)
theorem endOf_sealed (t : ByteArray) (b : Bs) (h : bs t = b ++ lastT b) (hb : b = [] ∨ ∃ a, b = a ++ [10]) : endOf t = b.length := by
  obtain ⟨m, hm, hm10⟩ := lastT_form b
  have et : bs (trimT t) = b ++ m := by
    unfold trimT
    rw [bs_ofBs, h, hm, ← List.append_assoc, trim_nl]
  unfold endOf
  rcases hb with rfl | ⟨a, rfl⟩
  · rcases last_spec (trimT t) with ⟨h1, _⟩ | ⟨a, b, h1, _, _⟩
    · rw [h1]; rfl
    · rw [et] at h1
      exact absurd (by rw [show m = a ++ 10 :: b from h1]; simp) hm10
  · rcases last_spec (trimT t) with ⟨_, h2⟩ | ⟨a', b', h1, h2, h3⟩
    · exact absurd (by rw [et]; simp) h2
    · rw [et, List.append_assoc] at h1
      have := app_last_inj a m a' b' h1 hm10 h2
      subst this
      rw [h3]
      simp
/-- what stands ahead of the last line -/
def unsealR (t : ByteArray) : Option Bs := if (bs t).drop (endOf t) = lastT ((bs t).take (endOf t)) then some ((bs t).take (endOf t)) else none
theorem unsealR_iff (t : ByteArray) (b : Bs) : unsealR t = some b ↔ bs t = b ++ lastT b ∧ (b = [] ∨ ∃ a, b = a ++ [10]) := by
  unfold unsealR
  constructor
  · intro h
    split at h
    · rename_i hc
      cases h
      exact ⟨by rw [← hc, List.take_append_drop], (endOf_spec t).2.2⟩
    · cases h
  · rintro ⟨h1, h2⟩
    have e := endOf_sealed t b h1 h2
    have et : (bs t).take (endOf t) = b := by rw [e, h1, List.take_left']; rfl
    have ed : (bs t).drop (endOf t) = lastT b := by rw [e, h1, List.drop_left']; rfl
    rw [et, ed, if_pos rfl]

end Go.Proofs.YtaelaldmibgibaaGreatDoor

namespace Go.Proofs.YtaelaldmibgibaaGreatDoor
open Go.RowKit Go.Lib

theorem bs_take (s : ByteArray) (k : Nat) : bs (s.extract 0 k) = (bs s).take k := Lib.extract_from_zero s k
theorem bs_drop (s : ByteArray) (k : Nat) : bs (s.extract k s.size) = (bs s).drop k := by
  have := Lib.extract_to_end s k
  exact this
set_option maxHeartbeats 400000 in
theorem Unseal_any (t : ByteArray) (ht : t.size ≤ 10000000) (w : World) (hg : Glob w) :
    Calls Tryz.prog 78 #[.string t] w fun e w' => e = .returned (.tuple #[.string (ofBs ((unsealR t).getD [])), .bool (unsealR t).isSome]) ∧ Below w.heap.size w w' := by
  obtain ⟨h1, h2, _⟩ := endOf_spec t
  have TR : Hid (Calls Tryz.prog 141 #[.string t, .string ⟨#[10]⟩] w fun e w' => e = .returned (.string (trimT t)) ∧ w' = w) := Tryz.strings_TrimSuffix t ⟨#[10]⟩ w (by omega)
  have hts : (trimT t).size ≤ t.size := by
    obtain ⟨k, hk, ek⟩ := trimT_take t
    rw [← bs_len, ek, List.length_take, bs_len]
    omega
  have LI : Hid (Calls Tryz.prog 140 #[.string (trimT t), .int .u8 10] w fun e w' => e = .returned (.int .i64 ((endOf t : Int) - 1)) ∧ w' = w) := by
    refine (Tryz.strings_LastIndexByte (trimT t) 10 (by omega) w).mono ?_
    rintro e w' ⟨rfl, rfl⟩
    exact ⟨by rw [show (endOf t : Int) - 1 = lastIndexByte (trimT t) 10 by omega], rfl⟩
  have SL : Hid (∀ W, Below w.heap.size w W → Calls Tryz.prog 68 #[.string (t.extract 0 (endOf t))] W fun e w' => e = .returned (.string (ofBs (lastT ((bs t).take (endOf t))))) ∧ Below w.heap.size w w') := fun W hb => by
    refine (sumLine_any _ (by rw [ByteArray.size_extract]; omega) W (hg.below hb)).mono ?_
    rintro e w' ⟨rfl, hb'⟩
    rw [bs_take]
    exact ⟨rfl, below_step hb hb'⟩
  have HU : Hid (unsealR t = if (t.extract (endOf t) t.size).toList == (ofBs (lastT ((bs t).take (endOf t)))).toList then some ((bs t).take (endOf t)) else none) := by
    unfold Hid unsealR
    by_cases h : (bs t).drop (endOf t) = lastT ((bs t).take (endOf t))
    · rw [if_pos h, if_pos]
      have e : t.extract (endOf t) t.size = ofBs (lastT ((bs t).take (endOf t))) := bs_inj (by rw [bs_drop, bs_ofBs]; exact h)
      exact (seq_iff _ _).2 e
    · rw [if_neg h, if_neg]
      intro q
      have e := (seq_iff _ _).1 q
      exact h (by rw [← bs_drop, e, bs_ofBs])
  have HT : Hid (ofBs ((bs t).take (endOf t)) = t.extract 0 (endOf t)) := bs_inj (by rw [bs_ofBs, bs_take])
  have B0 := hide (Below.refl w.heap.size w)
  clear h1 hts hg
  generalize endOf t = E at *
  generalize ofBs (lastT ((bs t).take E)) = LT at *
  generalize trimT t = tt at *
  generalize unsealR t = R at *
  cases hc : ((t.extract E t.size).toList == LT.toList) with
  | true =>
    have e : R = some ((bs t).take E) := by rw [HU.out, hc]; rfl
    subst e
    go_enter Tryz.func78, Tryz.ntmps78
    go_wp2_with (first
      | (go_at_call 141; refine (TR.out).mono ?_; rintro e w1 ⟨rfl, rfl⟩)
      | (go_at_call 140; refine (LI.out).mono ?_; rintro e w1 ⟨rfl, rfl⟩))
    go_region_law (first
      | (go_simp; go_at_call 68; refine (SL.out _ (by first | exact B0.out | exact B0.out.drew | exact B0.out.drewN _)).mono ?_; rintro e w5 ⟨rfl, hb5⟩; have B5 := hide hb5; clear hb5; dsimp only))
    all_goals
      go_wp2
      go_ret2
      exact ⟨by rw [Option.getD_some, HT.out]; rfl, B5.out⟩
  | false =>
    have e : R = none := by rw [HU.out, hc]; rfl
    subst e
    go_enter Tryz.func78, Tryz.ntmps78
    go_wp2_with (first
      | (go_at_call 141; refine (TR.out).mono ?_; rintro e w1 ⟨rfl, rfl⟩)
      | (go_at_call 140; refine (LI.out).mono ?_; rintro e w1 ⟨rfl, rfl⟩))
    go_region_law (first
      | (go_simp; go_at_call 68; refine (SL.out _ (by first | exact B0.out | exact B0.out.drew | exact B0.out.drewN _)).mono ?_; rintro e w5 ⟨rfl, hb5⟩; have B5 := hide hb5; clear hb5; dsimp only))
    all_goals
      go_wp2
      go_ret2
      exact ⟨rfl, B5.out⟩

end Go.Proofs.YtaelaldmibgibaaGreatDoor

namespace Go.Proofs.YtaelaldmibgibaaGreatDoor
open Go.RowKit Go.Lib

def lineR (t : Bs) : Bs := (Lib.cut t [10]).1
def restR (t : Bs) : Bs := (Lib.cut t [10]).2.1
def fieldsR (t : Bs) : List Bs := splitN (lineR t) [32] 6
/-- a list of texts in memory -/
structure Flds (w : World) (B : Nat) (fs : List Bs) : Prop where
  pc : ∀ (j : Nat) p, fs[j]? = some p → w.cell? ⟨B, j, none⟩ = some (.string (ofBs p))
  lt : B < w.heap.size
theorem Flds.below {w w' : World} {B : Nat} {fs : List Bs} (h : Flds w B fs) (hb : Below w.heap.size w w') : Flds w' B fs :=
  ⟨fun j p hp => (hb.cell (p := ⟨B, j, none⟩) h.lt).trans (h.pc j p hp), Nat.lt_of_lt_of_le h.lt hb.size⟩
set_option maxHeartbeats 400000 in
theorem cutLine_any (t : ByteArray) (ht : t.size ≤ 10000000) (w : World) (hg : Glob w) :
    Calls Tryz.prog 145 #[.string t] w fun e w' => ∃ B C, e = .returned (.tuple #[.slice (some ⟨B, 0, none⟩) (fieldsR (bs t)).length C, .string (ofBs (restR (bs t)))]) ∧ Flds w' B (fieldsR (bs t)) ∧ w.heap.size ≤ B ∧ Below w.heap.size w w' := by
  have CU : Hid (Calls Tryz.prog 79 #[.string t, .string ⟨#[10]⟩] w fun e w' => e = .returned (.tuple #[.string (ofBs (lineR (bs t))), .string (ofBs (restR (bs t))), .bool (Lib.cut (bs t) [10]).2.2]) ∧ ∃ n, w' = w.drewN n) := cut_any 10 t ht w hg
  have SP : Hid (∀ m, Calls Tryz.prog 195 #[.string (ofBs (lineR (bs t))), .string ⟨#[32]⟩, .int .i64 6] (w.drewN m) fun e w' => ∃ C, e = .returned (.slice (some ⟨w.heap.size, 0, none⟩) (fieldsR (bs t)).length C) ∧ Flds w' w.heap.size (fieldsR (bs t)) ∧ Below w.heap.size w w') := fun m => by
    have hb : Below w.heap.size w (w.drewN m) := ⟨rfl, rfl, rfl, Nat.le_refl _, fun _ _ => rfl⟩
    have hsz := (cut_size 10 (bs t)).1
    rw [bs_len] at hsz
    refine (split_any 32 (ofBs (lineR (bs t))) 6 (by omega) (by omega) (by rw [← bs_len, bs_ofBs]; unfold lineR; omega) (w.drewN m) (hg.below hb)).mono ?_
    rintro e w' ⟨C, rfl, hpc, hlt, hb'⟩
    rw [bs_ofBs] at hpc ⊢
    exact ⟨C, rfl, ⟨hpc, hlt⟩, below_step hb hb'⟩
  generalize (Lib.cut (bs t) [10]).2.2 = f at *
  generalize fieldsR (bs t) = fs at *
  generalize ofBs (lineR (bs t)) = ln at *
  generalize ofBs (restR (bs t)) = rs at *
  clear hg
  go_enter Tryz.func145, Tryz.ntmps145
  go_wp2_with (first
    | (go_at_call 79; refine (CU.out).mono ?_; rintro e w1 ⟨rfl, m, rfl⟩)
    | (go_at_call 195; refine (SP.out m).mono ?_; rintro e w2 ⟨C, rfl, hF, hb⟩))
  go_ret2
  exact ⟨_, _, rfl, hF, Nat.le_refl _, hb⟩

set_option maxHeartbeats 400000 in
theorem Has_any (f : Nat → Int) (r : Nat) (k : Int) (hr : r < 6) (w : World) :
    Calls Tryz.prog 224 #[timeVal f, .agg #[.int .i64 r, .int .i64 k]] w fun e w' => e = .returned (.bool (decide (k ≤ f r))) ∧ Below w.heap.size w w' := by
  unfold timeVal
  have c : ∀ o, ((w.alloc (.cells #[.int .i64 (f 0), .int .i64 (f 1), .int .i64 (f 2), .int .i64 (f 3), .int .i64 (f 4), .int .i64 (f 5)] 186)).alloc o).cell? ⟨w.heap.size, r, none⟩ = some (.int .i64 (f r)) := fun o => by
    rw [World.cell?_alloc_old _ _ _ (by simp)]
    simp only [World.cell?, heap_alloc_new]
    match r, hr with
    | 0, _ | 1, _ | 2, _ | 3, _ | 4, _ | 5, _ => rfl
  have hr1 : (0 : Int) ≤ (r : Int) := by omega
  have hr2 : (r : Int) < 6 := by omega
  have B : Hid (∀ q a b, Below w.heap.size w (((w.alloc a).alloc b).drewN q)) := fun q a b => by
    have := ((Below.refl w.heap.size w).alloc (Nat.le_refl _) a).alloc (by simp) b
    exact ⟨this.os, this.tape, this.output, this.size, this.block⟩
  go_enter Tryz.func224, Tryz.ntmps224
  go_wp2
  go_quiet (fail)
  go_wp2
  go_ret
  exact ⟨rfl, B.out _ _ _⟩

end Go.Proofs.YtaelaldmibgibaaGreatDoor

namespace Go.Proofs.YtaelaldmibgibaaGreatDoor
open Go.RowKit Go.Lib

/-- the value of a digit, or -1 -/
def dv (c : UInt8) : Int := indexByte (bs digs) c
theorem dv_all : ∀ k : Fin 256, (dv (UInt8.ofNat k.val) = -1 ∨ ((dv (UInt8.ofNat k.val)).toNat < 16 ∧ 0 ≤ dv (UInt8.ofNat k.val) ∧ UInt8.ofNat k.val = hexd (dv (UInt8.ofNat k.val)).toNat)) := by decide +kernel
theorem dv_hexd : ∀ k : Fin 16, dv (hexd k.val) = (k.val : Int) := by decide +kernel
theorem dv_spec (c : UInt8) : dv c = -1 ∨ ∃ k : Nat, k < 16 ∧ dv c = k ∧ c = hexd k := by
  have h := dv_all ⟨c.toNat, c.toNat_lt⟩
  simp only [ofNat_toNat] at h
  rcases h with h | ⟨h1, h2, h3⟩
  · exact .inl h
  · exact .inr ⟨(dv c).toNat, h1, by omega, h3⟩
/-- the bytes that pairs of digits tell -/
def pairsR : Bs → Option Bs
  | [] => some []
  | [_] => none
  | x :: y :: l => if dv x < 0 ∨ dv y < 0 then none else (pairsR l).map (UInt8.ofNat (16 * (dv x).toNat + (dv y).toNat) :: ·)
theorem pairsR_iff : ∀ (t u : Bs), pairsR t = some u ↔ t = hexT u
  | [], u => by
    cases u with
    | nil => simp [pairsR, hexT_nil]
    | cons c u => simp [pairsR, hexT_cons]
  | [x], u => by
    cases u with
    | nil => simp [pairsR, hexT_nil]
    | cons c u => simp [pairsR, hexT_cons]
  | x :: y :: l, u => by
    rw [pairsR]
    constructor
    · intro h
      split at h
      · cases h
      · rename_i hn
        obtain ⟨u', h1, rfl⟩ := Option.map_eq_some_iff.1 h
        have := (pairsR_iff l u').1 h1
        subst this
        rcases dv_spec x with q | ⟨i, hi, e1, e2⟩
        · exact absurd (.inl (by omega)) hn
        · rcases dv_spec y with q | ⟨j, hj, e3, e4⟩
          · exact absurd (.inr (by omega)) hn
          · rw [hexT_cons, e1, e3]
            simp only [Int.toNat_natCast]
            have hv : (UInt8.ofNat (16 * i + j)).toNat = 16 * i + j := by rw [UInt8.toNat_ofNat']; omega
            rw [hv, show (16 * i + j) / 16 = i by omega, show (16 * i + j) % 16 = j by omega, ← e2, ← e4]
    · intro h
      cases u with
      | nil => simp [hexT_nil] at h
      | cons c u =>
        rw [hexT_cons] at h
        simp only [List.cons.injEq] at h
        obtain ⟨rfl, rfl, rfl⟩ := h
        have hc : c.toNat < 256 := c.toNat_lt
        have d1 := dv_hexd ⟨c.toNat / 16, by omega⟩
        have d2 := dv_hexd ⟨c.toNat % 16, by omega⟩
        simp only at d1 d2
        rw [d1, d2, if_neg (by omega), (pairsR_iff (hexT u) u).2 rfl]
        simp only [Int.toNat_natCast, Option.map_some]
        rw [show 16 * (c.toNat / 16) + c.toNat % 16 = c.toNat by omega, ofNat_toNat]
/-- the text that digits tell -/
def hexR (t : Bs) : Option Bs := if hasPrefix t [61] = true ∧ (trimPrefix t [61]).length % 2 = 0 ∧ (trimPrefix t [61]).length ≤ 120 then pairsR (trimPrefix t [61]) else none
theorem hexR_iff (t u : Bs) : hexR t = some u ↔ u.length ≤ 60 ∧ t = 61 :: hexT u := by
  unfold hexR
  constructor
  · intro h
    split at h
    · rename_i hc
      have e : t = 61 :: trimPrefix t [61] := by
        have h1 := hc.1
        unfold hasPrefix at h1
        unfold trimPrefix hasPrefix
        rw [if_pos h1]
        cases t with
        | nil => simp [List.isPrefixOf] at h1
        | cons x t =>
          simp [List.isPrefixOf] at h1
          subst h1
          rfl
      have h2 := (pairsR_iff _ _).1 h
      have h3 := hexT_len u
      rw [← h2] at h3
      exact ⟨by omega, by rw [← h2]; exact e⟩
    · cases h
  · rintro ⟨h1, rfl⟩
    have hp : hasPrefix (61 :: hexT u) [61] = true := by simp [hasPrefix, List.isPrefixOf]
    have e : trimPrefix (61 :: hexT u) [61] = hexT u := by unfold trimPrefix; rw [if_pos hp]; rfl
    have hl := hexT_len u
    rw [e, if_pos ⟨hp, by omega, by omega⟩]
    exact (pairsR_iff _ _).2 rfl

end Go.Proofs.YtaelaldmibgibaaGreatDoor

namespace Go.Proofs.YtaelaldmibgibaaGreatDoor
open Go.RowKit

def zero6 : Array Value := #[.bool false, .string ⟨#[]⟩, .int .i64 0, .int .i64 0, .slice none 0 0, .slice none 0 0]
/-- the reader, a spot under way in block xb, and block rb for what is handed back -/
structure Sx (w wr : World) (b : Nat) (s : ByteArray) (x : Nat × Bool) (rb xb : Nat) (c : SP) : Prop where
  rd : Rd wr b s x.1 x.2
  blk : wr.heap[xb]? = some (.cells c.cells.toArray 117 (0, 0))
  res : wr.heap[rb]? = some (.cells zero6 117 (0, 0))
  ch : wr.ownsRow w.heap.size 3 1 c.chv c.ch.length (ivs c.ch)
  tm : wr.ownsRow w.heap.size 3 1 c.tmv c.tm.length (ivs c.tm)
  fch : ∀ k, c.chv.ownBlock = some k → k ≠ xb ∧ k ≠ rb
  ftm : ∀ k, c.tmv.ownBlock = some k → k ≠ xb ∧ k ≠ rb
  apart : ∀ k, c.tmv.ownBlock = some k → c.chv.ownBlock ≠ some k
  fr : Fr (fun k => k = b) w wr
  hb : b < w.heap.size
  hr : w.heap.size ≤ rb
  hx : w.heap.size ≤ xb
  ne : rb ≠ xb

theorem Sx.cell {w wr b s x rb xb c} (h : Sx w wr b s x rb xb c) (j : Nat) : wr.cell? ⟨xb, j, none⟩ = c.cells[j]? := by simp [World.cell?, h.blk]
theorem Sx.c1 {w wr b s x rb xb c} (h : Sx w wr b s x rb xb c) : wr.cell? ⟨xb, 1, none⟩ = some (.string c.text) := by rw [h.cell]; rfl
theorem Sx.c2 {w wr b s x rb xb c} (h : Sx w wr b s x rb xb c) : wr.cell? ⟨xb, 2, none⟩ = some (.int .i64 c.by_) := by rw [h.cell]; rfl
theorem Sx.isSome {w wr b s x rb xb c} (h : Sx w wr b s x rb xb c) (j : Nat) (hj : j < 6) : (wr.cell? ⟨xb, j, none⟩).isSome = true := by
  rw [h.cell]
  match j, hj with
  | 0, _ | 1, _ | 2, _ | 3, _ | 4, _ | 5, _ => rfl
theorem Sx.fz {w wr b s x rb xb c} (h : Sx w wr b s x rb xb c) (j : Nat) : wr.frozen? ⟨xb, j, none⟩ = false := by simp [World.frozen?, h.blk]
theorem Sx.xlt {w wr b s x rb xb c} (h : Sx w wr b s x rb xb c) : xb < wr.heap.size := (Array.getElem?_eq_some_iff.1 h.blk).1
theorem Sx.rlt {w wr b s x rb xb c} (h : Sx w wr b s x rb xb c) : rb < wr.heap.size := (Array.getElem?_eq_some_iff.1 h.res).1
theorem Sx.there {w wr b s x rb xb c} (h : Sx w wr b s x rb xb c) : wr.there rb 0 6 := by
  intro j hj
  refine ⟨?_, by simp [World.frozen?, h.res]⟩
  simp only [World.cell?, h.res, zero6]
  match j, hj with
  | 0, _ | 1, _ | 2, _ | 3, _ | 4, _ | 5, _ => rfl

/-- somebody has turned the reader alone -/
theorem Sx.onRd {w wr w' : World} {b : Nat} {s : ByteArray} {x y : Nat × Bool} {rb xb : Nat} {c : SP} (h : Sx w wr b s x rb xb c) (hr : Rd w' b s y.1 y.2) (hf : Fr (fun k => k = b) wr w') : Sx w w' b s y rb xb c := by
  have hz := h.fr.size
  have hb := h.hb
  have keep : ∀ k, w.heap.size ≤ k → k < wr.heap.size → w'.heap[k]? = wr.heap[k]? := fun k h1 h2 => hf.block k h2 (by omega)
  exact ⟨hr, by rw [keep xb h.hx h.xlt]; exact h.blk, by rw [keep rb h.hr h.rlt]; exact h.res, ownsRow_keep h.ch (fun k hk => keep k (h.ch.lt k hk).1 (h.ch.lt k hk).2), ownsRow_keep h.tm (fun k hk => keep k (h.tm.lt k hk).1 (h.tm.lt k hk).2), h.fch, h.ftm, h.apart, h.fr.trans hf, hb, h.hr, h.hx, h.ne⟩
theorem Sx.want {w wr : World} {b : Nat} {s : ByteArray} {x : Nat × Bool} {rb xb : Nat} {c : SP} (h : Sx w wr b s x rb xb c) (p : ByteArray) (hp : p.size ≤ 1000) :
    Calls Tryz.prog 50 #[.pointer (some ⟨b, 0, none⟩), .string p] wr fun e w' => e = .returned (.tuple #[]) ∧ Sx w w' b s (wantS s p x) rb xb c := by
  refine (want_any b s x.1 x.2 p hp wr h.rd).mono ?_
  rintro e w' ⟨rfl, hr, hf⟩
  exact ⟨rfl, h.onRd hr hf⟩
theorem Sx.num {w wr : World} {b : Nat} {s : ByteArray} {x : Nat × Bool} {rb xb : Nat} {c : SP} (h : Sx w wr b s x rb xb c) :
    Calls Tryz.prog 51 #[.pointer (some ⟨b, 0, none⟩)] wr fun e w' => e = .returned (.int .i64 (numVal s x.1)) ∧ Sx w w' b s (numS s x) rb xb c := by
  refine (number_any b s x.1 x.2 wr h.rd).mono ?_
  rintro e w' ⟨rfl, hr, hf⟩
  exact ⟨rfl, h.onRd hr hf⟩
theorem Sx.is {w wr : World} {b : Nat} {s : ByteArray} {x : Nat × Bool} {rb xb : Nat} {c : SP} (h : Sx w wr b s x rb xb c) (p : ByteArray) (hp : p.size ≤ 1000) :
    Calls Tryz.prog 98 #[.pointer (some ⟨b, 0, none⟩), .string p] wr fun e w' => e = .returned (.bool (hasAt s x.1 x.2 p)) ∧ Sx w w' b s (passed s x.1 x.2 p, x.2) rb xb c := by
  refine (is_any b s x.1 x.2 p hp wr h.rd).mono ?_
  rintro e w' ⟨rfl, hr, hf⟩
  exact ⟨rfl, h.onRd hr hf⟩
/-- the spot as it was, and a row more -/
structure Sxr (w w' : World) (b : Nat) (s : ByteArray) (x : Nat × Bool) (rb xb : Nat) (c : SP) (v : Value) (l : List Int) : Prop where
  sx : Sx w w' b s x rb xb c
  own : w'.ownsRow w.heap.size 3 1 v l.length (ivs l)
  far : ∀ k, v.ownBlock = some k → k ≠ xb ∧ k ≠ rb ∧ c.chv.ownBlock ≠ some k ∧ c.tmv.ownBlock ≠ some k
theorem Sx.time {w wr : World} {b : Nat} {s : ByteArray} {x : Nat × Bool} {rb xb : Nat} {c : SP} (h : Sx w wr b s x rb xb c) (n : Nat) (hn : n ≤ 6) :
    Calls Tryz.prog 52 #[.pointer (some ⟨b, 0, none⟩), .int .i64 n] wr fun e w' => ∃ v, e = .returned v ∧ Sxr w w' b s (timeS s n x).1 rb xb c v (timeS s n x).2 := by
  refine (time_any b s x n hn wr h.rd).mono ?_
  rintro e w' ⟨v, rfl, hT⟩
  have hz := h.fr.size
  refine ⟨v, rfl, h.onRd hT.rd hT.fr, ownsRow_base hT.own (fun k hk => by have := (hT.own.lt k hk).1; omega), fun k hk => ?_⟩
  have h1 := (hT.own.lt k hk).1
  have h2 := h.xlt
  have h3 := h.rlt
  exact ⟨by omega, by omega, fun e => by have := (h.ch.lt k e).2; omega, fun e => by have := (h.tm.lt k e).2; omega⟩

/-- a field of the spot is written -/
theorem Sx.put {w wr : World} {b : Nat} {s : ByteArray} {x : Nat × Bool} {rb xb : Nat} {c c' : SP} (h : Sx w wr b s x rb xb c) (j : Nat) (u : Value) (hc : c'.cells = c.cells.set j u)
    (hch : wr.ownsRow w.heap.size 3 1 c'.chv c'.ch.length (ivs c'.ch)) (htm : wr.ownsRow w.heap.size 3 1 c'.tmv c'.tm.length (ivs c'.tm))
    (fch : ∀ k, c'.chv.ownBlock = some k → k ≠ xb ∧ k ≠ rb) (ftm : ∀ k, c'.tmv.ownBlock = some k → k ≠ xb ∧ k ≠ rb) (hap : ∀ k, c'.tmv.ownBlock = some k → c'.chv.ownBlock ≠ some k) : Sx w (wr.setCell ⟨xb, j, none⟩ u) b s x rb xb c' := by
  have hb := h.hb
  have hx := h.hx
  have oth : ∀ k, k ≠ xb → (wr.setCell ⟨xb, j, none⟩ u).heap[k]? = wr.heap[k]? := fun k hk => Below.heap_setCell _ _ _ _ hk
  refine ⟨h.rd.keep (oth b (by omega)), ?_, by rw [oth rb h.ne]; exact h.res, ownsRow_keep hch (fun k hk => oth k (fch k hk).1), ownsRow_keep htm (fun k hk => oth k (ftm k hk).1), fch, ftm, hap, h.fr.setCell (.inr hx) _, hb, h.hr, hx, h.ne⟩
  have := heap_set1 wr xb j _ _ _ u h.blk
  rw [this, hc]
  simp
theorem Sx.putThere {w wr b s x rb xb c} (h : Sx w wr b s x rb xb c) (u : Bool) : Sx w (wr.setCell ⟨xb, 0, none⟩ (.bool u)) b s x rb xb { c with there := u } := h.put 0 _ rfl h.ch h.tm h.fch h.ftm h.apart
theorem Sx.putText {w wr b s x rb xb c} (h : Sx w wr b s x rb xb c) (u : ByteArray) : Sx w (wr.setCell ⟨xb, 1, none⟩ (.string u)) b s x rb xb { c with text := u } := h.put 1 _ rfl h.ch h.tm h.fch h.ftm h.apart
theorem Sx.putBy {w wr b s x rb xb c} (h : Sx w wr b s x rb xb c) (u : Int) : Sx w (wr.setCell ⟨xb, 2, none⟩ (.int .i64 u)) b s x rb xb { c with by_ := u } := h.put 2 _ rfl h.ch h.tm h.fch h.ftm h.apart
theorem Sx.putNum {w wr b s x rb xb c} (h : Sx w wr b s x rb xb c) (u : Int) : Sx w (wr.setCell ⟨xb, 3, none⟩ (.int .i64 u)) b s x rb xb { c with num := u } := h.put 3 _ rfl h.ch h.tm h.fch h.ftm h.apart
theorem Sxr.putCh {w wr b s x rb xb c v l} (h : Sxr w wr b s x rb xb c v l) : Sx w (wr.setCell ⟨xb, 4, none⟩ v) b s x rb xb { c with chv := v, ch := l } :=
  h.sx.put 4 _ rfl h.own h.sx.tm (fun k hk => ⟨(h.far k hk).1, (h.far k hk).2.1⟩) h.sx.ftm (fun k hk e => (h.far k e).2.2.2 hk)
theorem Sxr.putTm {w wr b s x rb xb c v l} (h : Sxr w wr b s x rb xb c v l) : Sx w (wr.setCell ⟨xb, 5, none⟩ v) b s x rb xb { c with tmv := v, tm := l } :=
  h.sx.put 5 _ rfl h.sx.ch h.own h.sx.fch (fun k hk => ⟨(h.far k hk).1, (h.far k hk).2.1⟩) (fun k hk e => (h.far k hk).2.2.1 e)
theorem Sx.setNo {w wr b s} {x : Nat × Bool} {rb xb c} (h : Sx w wr b s x rb xb c) (u : Bool) : Sx w (wr.setCell ⟨b, 2, none⟩ (.bool u)) b s (x.1, u) rb xb c :=
  h.onRd (h.rd.setNo u) ((Fr.refl (fun k => k = b) wr).setCell (.inl rfl) _)
theorem Sx.setAt {w wr b s} {x : Nat × Bool} {rb xb c} (h : Sx w wr b s x rb xb c) (u : Nat) (hu : u ≤ s.size) : Sx w (wr.setCell ⟨b, 1, none⟩ (.int .i64 u)) b s (u, x.2) rb xb c :=
  h.onRd (h.rd.setAt u hu) ((Fr.refl (fun k => k = b) wr).setCell (.inl rfl) _)
theorem Sx.drewN {w wr b s x rb xb c} (h : Sx w wr b s x rb xb c) (q : Nat) : Sx w (wr.drewN q) b s x rb xb c :=
  h.onRd (h.rd.keep rfl) ((Fr.refl _ _).drewN q)
theorem Sx.alloc {w wr b s x rb xb c} (h : Sx w wr b s x rb xb c) (o : Obj) : Sx w (wr.alloc o) b s x rb xb c :=
  h.onRd (h.rd.keep (Below.heap_alloc _ _ _ (by have := h.fr.size; have := h.hb; omega))) ((Fr.refl _ _).alloc o)

/-- what is handed back: a spot that is as it was read -/
structure Sp (w w' : World) (b : Nat) (s : ByteArray) (c : SP) (r : SpR) : Prop where
  rd : Rd w' b s r.st.1 r.st.2
  th : c.there = r.there
  tx : c.text = ⟨r.text.toArray⟩
  by_ : c.by_ = r.by_
  num : c.num = r.num
  ch : c.ch = r.ch
  tm : c.tm = r.tm
  och : w'.ownsRow w.heap.size 3 1 c.chv c.ch.length (ivs c.ch)
  otm : w'.ownsRow w.heap.size 3 1 c.tmv c.tm.length (ivs c.tm)
  apart : ∀ k, c.tmv.ownBlock = some k → c.chv.ownBlock ≠ some k
  fr : Fr (fun k => k = b) w w'
theorem Sx.done {w wr : World} {b : Nat} {s : ByteArray} {rb xb : Nat} {c : SP} {r : SpR} (h : Sx w wr b s r.st rb xb c) (e1 : c.there = r.there) (e2 : c.text = ⟨r.text.toArray⟩) (e3 : c.by_ = r.by_) (e4 : c.num = r.num) (e5 : c.ch = r.ch) (e6 : c.tm = r.tm) (vs : List Value) :
    Sp w (wr.setCells rb 0 vs) b s c r := by
  have hb := h.hb
  have hr := h.hr
  have oth : ∀ k, k ≠ rb → (wr.setCells rb 0 vs).heap[k]? = wr.heap[k]? := fun k hk => heap_setCells_other _ _ _ _ _ hk
  refine ⟨h.rd.keep (oth b (by omega)), e1, e2, e3, e4, e5, e6, ownsRow_keep h.ch (fun k hk => oth k (h.fch k hk).2), ownsRow_keep h.tm (fun k hk => oth k (h.ftm k hk).2), h.apart, ?_⟩
  have q := Below.setCells (b := rb) (Below.refl 0 wr) (Nat.zero_le _) vs 0
  exact h.fr.trans' (T := fun k => k = rb) ⟨q.os, q.tape, q.output, by rw [size_setCells]; exact Nat.le_refl _, fun k _ hk => oth k hk⟩ (fun i hi e => by omega)

end Go.Proofs.YtaelaldmibgibaaGreatDoor
