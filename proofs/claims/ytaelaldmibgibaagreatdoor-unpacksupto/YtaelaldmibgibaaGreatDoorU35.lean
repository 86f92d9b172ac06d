/- The program's lines: cutLine; Has. The program's reader of the texts of files, without memory. The program's cutLine, with the list's room. The program's ReadHex. The program's readFile, without memory. The program's readFile. The program's readFile at none, two or four fields. -/
import Derived.Test.YtaelaldmibgibaaGreatDoorU30
import Derived.Test.YtaelaldmibgibaaGreatDoorU32
import Derived.Test.YtaelaldmibgibaaGreatDoorU15
import Derived.Deep.RegionLaw

set_option linter.unusedVariables false
set_option linter.unusedSimpArgs false

namespace Go.Proofs.YtaelaldmibgibaaGreatDoor
open Go.RowKit Go.Lib

def lineR (t : Bs) : Bs := (Lib.cut t [10]).1
def restR (t : Bs) : Bs := (Lib.cut t [10]).2.1
def fieldsR (t : Bs) : List Bs := splitN (lineR t) [32] 6
/-- a list of texts in memory -/
structure Flds (w : World) (B : Nat) (fs : List Bs) : Prop where
  pc : ∀ (j : Nat) p, fs[j]? = some p → w.cell? ⟨B, j, none⟩ = some (.string (ofBs p))
  lt : B < w.heap.size
theorem Flds.below {w w' : World} {B : Nat} {fs : List Bs} (h : Flds w B fs) (hb : Below w.heap.size w w') : Flds w' B fs :=
  ⟨fun j p hp => (hb.cell (p := ⟨B, j, none⟩) h.lt).trans (h.pc j p hp), Nat.lt_of_lt_of_le h.lt hb.size⟩
set_option maxHeartbeats 400000 in
theorem cutLine_any (t : ByteArray) (ht : t.size ≤ 10000000) (w : World) (hg : Glob w) :
    Calls Tryz.prog 145 #[.string t] w fun e w' => ∃ B C, e = .returned (.tuple #[.slice (some ⟨B, 0, none⟩) (fieldsR (bs t)).length C, .string (ofBs (restR (bs t)))]) ∧ Flds w' B (fieldsR (bs t)) ∧ w.heap.size ≤ B ∧ Below w.heap.size w w' := by
  have CU : Hid (Calls Tryz.prog 79 #[.string t, .string ⟨#[10]⟩] w fun e w' => e = .returned (.tuple #[.string (ofBs (lineR (bs t))), .string (ofBs (restR (bs t))), .bool (Lib.cut (bs t) [10]).2.2]) ∧ ∃ n, w' = w.drewN n) := cut_any 10 t ht w hg
  have SP : Hid (∀ m, Calls Tryz.prog 195 #[.string (ofBs (lineR (bs t))), .string ⟨#[32]⟩, .int .i64 6] (w.drewN m) fun e w' => ∃ C, e = .returned (.slice (some ⟨w.heap.size, 0, none⟩) (fieldsR (bs t)).length C) ∧ Flds w' w.heap.size (fieldsR (bs t)) ∧ Below w.heap.size w w') := fun m => by
    have hb : Below w.heap.size w (w.drewN m) := ⟨rfl, rfl, rfl, Nat.le_refl _, fun _ _ => rfl⟩
    have hsz := (cut_size 10 (bs t)).1
    rw [bs_len] at hsz
    refine (split_any 32 (ofBs (lineR (bs t))) 6 (by omega) (by omega) (by rw [← bs_len, bs_ofBs]; unfold lineR; omega) (w.drewN m) (hg.below hb)).mono ?_
    rintro e w' ⟨C, rfl, hpc, hlt, hb'⟩
    rw [bs_ofBs] at hpc ⊢
    exact ⟨C, rfl, ⟨hpc, hlt⟩, below_step hb hb'⟩
  generalize (Lib.cut (bs t) [10]).2.2 = f at *
  generalize fieldsR (bs t) = fs at *
  generalize ofBs (lineR (bs t)) = ln at *
  generalize ofBs (restR (bs t)) = rs at *
  clear hg
  go_enter Tryz.func145, Tryz.ntmps145
  go_wp2_with (first
    | (go_at_call 79; refine (CU.out).mono ?_; rintro e w1 ⟨rfl, m, rfl⟩)
    | (go_at_call 195; refine (SP.out m).mono ?_; rintro e w2 ⟨C, rfl, hF, hb⟩))
  go_ret2
  exact ⟨_, _, rfl, hF, Nat.le_refl _, hb⟩

set_option maxHeartbeats 400000 in
theorem Has_any (f : Nat → Int) (r : Nat) (k : Int) (hr : r < 6) (w : World) :
    Calls Tryz.prog 224 #[timeVal f, .agg #[.int .i64 r, .int .i64 k]] w fun e w' => e = .returned (.bool (decide (k ≤ f r))) ∧ Below w.heap.size w w' := by
  unfold timeVal
  have c : ∀ o, ((w.alloc (.cells #[.int .i64 (f 0), .int .i64 (f 1), .int .i64 (f 2), .int .i64 (f 3), .int .i64 (f 4), .int .i64 (f 5)] 186)).alloc o).cell? ⟨w.heap.size, r, none⟩ = some (.int .i64 (f r)) := fun o => by
    rw [World.cell?_alloc_old _ _ _ (by simp)]
    simp only [World.cell?, heap_alloc_new]
    match r, hr with
    | 0, _ | 1, _ | 2, _ | 3, _ | 4, _ | 5, _ => rfl
  have hr1 : (0 : Int) ≤ (r : Int) := by omega
  have hr2 : (r : Int) < 6 := by omega
  have B : Hid (∀ q a b, Below w.heap.size w (((w.alloc a).alloc b).drewN q)) := fun q a b => by
    have := ((Below.refl w.heap.size w).alloc (Nat.le_refl _) a).alloc (by simp) b
    exact ⟨this.os, this.tape, this.output, this.size, this.block⟩
  go_enter Tryz.func224, Tryz.ntmps224
  go_wp2
  go_quiet (fail)
  go_wp2
  go_ret
  exact ⟨rfl, B.out _ _ _⟩

end Go.Proofs.YtaelaldmibgibaaGreatDoor

namespace Go.Proofs.YtaelaldmibgibaaGreatDoor
open Go.RowKit Go.Lib

/-- the value of a digit, or -1 -/
def dv (c : UInt8) : Int := indexByte (bs digs) c
theorem dv_all : ∀ k : Fin 256, (dv (UInt8.ofNat k.val) = -1 ∨ ((dv (UInt8.ofNat k.val)).toNat < 16 ∧ 0 ≤ dv (UInt8.ofNat k.val) ∧ UInt8.ofNat k.val = hexd (dv (UInt8.ofNat k.val)).toNat)) := by decide +kernel
theorem dv_hexd : ∀ k : Fin 16, dv (hexd k.val) = (k.val : Int) := by decide +kernel
theorem dv_spec (c : UInt8) : dv c = -1 ∨ ∃ k : Nat, k < 16 ∧ dv c = k ∧ c = hexd k := by
  have h := dv_all ⟨c.toNat, c.toNat_lt⟩
  simp only [ofNat_toNat] at h
  rcases h with h | ⟨h1, h2, h3⟩
  · exact .inl h
  · exact .inr ⟨(dv c).toNat, h1, by omega, h3⟩
/-- the bytes that pairs of digits tell -/
def pairsR : Bs → Option Bs
  | [] => some []
  | [_] => none
  | x :: y :: l => if dv x < 0 ∨ dv y < 0 then none else (pairsR l).map (UInt8.ofNat (16 * (dv x).toNat + (dv y).toNat) :: ·)
theorem pairsR_iff : ∀ (t u : Bs), pairsR t = some u ↔ t = hexT u
  | [], u => by
    cases u with
    | nil => simp [pairsR, hexT_nil]
    | cons c u => simp [pairsR, hexT_cons]
  | [x], u => by
    cases u with
    | nil => simp [pairsR, hexT_nil]
    | cons c u => simp [pairsR, hexT_cons]
  | x :: y :: l, u => by
    rw [pairsR]
    constructor
    · intro h
      split at h
      · cases h
      · rename_i hn
        obtain ⟨u', h1, rfl⟩ := Option.map_eq_some_iff.1 h
        have := (pairsR_iff l u').1 h1
        subst this
        rcases dv_spec x with q | ⟨i, hi, e1, e2⟩
        · exact absurd (.inl (by omega)) hn
        · rcases dv_spec y with q | ⟨j, hj, e3, e4⟩
          · exact absurd (.inr (by omega)) hn
          · rw [hexT_cons, e1, e3]
            simp only [Int.toNat_natCast]
            have hv : (UInt8.ofNat (16 * i + j)).toNat = 16 * i + j := by rw [UInt8.toNat_ofNat']; omega
            rw [hv, show (16 * i + j) / 16 = i by omega, show (16 * i + j) % 16 = j by omega, ← e2, ← e4]
    · intro h
      cases u with
      | nil => simp [hexT_nil] at h
      | cons c u =>
        rw [hexT_cons] at h
        simp only [List.cons.injEq] at h
        obtain ⟨rfl, rfl, rfl⟩ := h
        have hc : c.toNat < 256 := c.toNat_lt
        have d1 := dv_hexd ⟨c.toNat / 16, by omega⟩
        have d2 := dv_hexd ⟨c.toNat % 16, by omega⟩
        simp only at d1 d2
        rw [d1, d2, if_neg (by omega), (pairsR_iff (hexT u) u).2 rfl]
        simp only [Int.toNat_natCast, Option.map_some]
        rw [show 16 * (c.toNat / 16) + c.toNat % 16 = c.toNat by omega, ofNat_toNat]
/-- the text that digits tell -/
def hexR (t : Bs) : Option Bs := if hasPrefix t [61] = true ∧ (trimPrefix t [61]).length % 2 = 0 ∧ (trimPrefix t [61]).length ≤ 120 then pairsR (trimPrefix t [61]) else none
theorem hexR_iff (t u : Bs) : hexR t = some u ↔ u.length ≤ 60 ∧ t = 61 :: hexT u := by
  unfold hexR
  constructor
  · intro h
    split at h
    · rename_i hc
      have e : t = 61 :: trimPrefix t [61] := by
        have h1 := hc.1
        unfold hasPrefix at h1
        unfold trimPrefix hasPrefix
        rw [if_pos h1]
        cases t with
        | nil => simp [List.isPrefixOf] at h1
        | cons x t =>
          simp [List.isPrefixOf] at h1
          subst h1
          rfl
      have h2 := (pairsR_iff _ _).1 h
      have h3 := hexT_len u
      rw [← h2] at h3
      exact ⟨by omega, by rw [← h2]; exact e⟩
    · cases h
  · rintro ⟨h1, rfl⟩
    have hp : hasPrefix (61 :: hexT u) [61] = true := by simp [hasPrefix, List.isPrefixOf]
    have e : trimPrefix (61 :: hexT u) [61] = hexT u := by unfold trimPrefix; rw [if_pos hp]; rfl
    have hl := hexT_len u
    rw [e, if_pos ⟨hp, by omega, by omega⟩]
    exact (pairsR_iff _ _).2 rfl

end Go.Proofs.YtaelaldmibgibaaGreatDoor

namespace Go.Proofs.YtaelaldmibgibaaGreatDoor
open Go.RowKit Go.Lib

theorem split_cap (c : UInt8) (s : ByteArray) (m : Nat) (hm : 1 ≤ m) (hm6 : m ≤ 1000) (hs : s.size ≤ 10000000) (w : World) (hg : Glob w) :
    Calls Tryz.prog 195 #[.string s, .string ⟨#[c]⟩, .int .i64 m] w fun e w' => ∃ C, e = .returned (.slice (some ⟨w.heap.size, 0, none⟩) (splitN (bs s) [c] m).length C) ∧ (∀ (j : Nat) p, (splitN (bs s) [c] m)[j]? = some p → w'.cell? ⟨w.heap.size, j, none⟩ = some (.string (ofBs p))) ∧ w.heap.size < w'.heap.size ∧ Below w.heap.size w w' ∧ (splitN (bs s) [c] m).length ≤ C := by
  obtain ⟨mx, hmx⟩ := hg.max
  refine (Tryz.strings_SplitN s ⟨#[c]⟩ m mx w (by omega) hmx (Nat.le_refl 1) hm (by omega)).mono ?_
  rintro e w' ⟨rfl, rfl⟩
  have hd := splitB_data (⟨#[c]⟩ : ByteArray) 0 (min m (s.size + 1) - 1) s
  have hd' : (splitB ⟨#[c]⟩ 0 (min m (s.size + 1) - 1) s).map (·.data.toList) = splitN (bs s) [c] m := by
    rw [hd]
    unfold splitN
    rw [bs_len]
    rfl
  have hle := splitB_length_le (⟨#[c]⟩ : ByteArray) 0 (min m (s.size + 1) - 1) s
  generalize splitB ⟨#[c]⟩ 0 (min m (s.size + 1) - 1) s = ps at *
  refine ⟨min m (s.size + 1), ?_, fun j p hp => ?_, by simp, (Below.refl _ _).alloc (Nat.le_refl _) _, ?_⟩
  · rw [← hd', List.length_map]
  · rw [← hd', List.getElem?_map] at hp
    obtain ⟨q, hq, rfl⟩ := Option.map_eq_some_iff.1 hp
    have hj := (List.getElem?_eq_some_iff.1 hq).1
    simp only [World.cell?, heap_alloc_new, cellsOf]
    rw [List.getElem?_toArray, List.getElem?_append_left (by simpa using hj), List.getElem?_map, hq]
    rfl
  · rw [← hd', List.length_map]
    omega

set_option maxHeartbeats 400000 in
theorem cutLine_cap (t : ByteArray) (ht : t.size ≤ 10000000) (w : World) (hg : Glob w) :
    Calls Tryz.prog 145 #[.string t] w fun e w' => ∃ B C, e = .returned (.tuple #[.slice (some ⟨B, 0, none⟩) (fieldsR (bs t)).length C, .string (ofBs (restR (bs t)))]) ∧ Flds w' B (fieldsR (bs t)) ∧ w.heap.size ≤ B ∧ Below w.heap.size w w' ∧ (fieldsR (bs t)).length ≤ C := by
  have CU : Hid (Calls Tryz.prog 79 #[.string t, .string ⟨#[10]⟩] w fun e w' => e = .returned (.tuple #[.string (ofBs (lineR (bs t))), .string (ofBs (restR (bs t))), .bool (Lib.cut (bs t) [10]).2.2]) ∧ ∃ n, w' = w.drewN n) := cut_any 10 t ht w hg
  have SP : Hid (∀ m, Calls Tryz.prog 195 #[.string (ofBs (lineR (bs t))), .string ⟨#[32]⟩, .int .i64 6] (w.drewN m) fun e w' => ∃ C, e = .returned (.slice (some ⟨w.heap.size, 0, none⟩) (fieldsR (bs t)).length C) ∧ Flds w' w.heap.size (fieldsR (bs t)) ∧ Below w.heap.size w w' ∧ (fieldsR (bs t)).length ≤ C) := fun m => by
    have hb : Below w.heap.size w (w.drewN m) := ⟨rfl, rfl, rfl, Nat.le_refl _, fun _ _ => rfl⟩
    have hsz := (cut_size 10 (bs t)).1
    rw [bs_len] at hsz
    refine (split_cap 32 (ofBs (lineR (bs t))) 6 (by omega) (by omega) (by rw [← bs_len, bs_ofBs]; unfold lineR; omega) (w.drewN m) (hg.below hb)).mono ?_
    rintro e w' ⟨C, rfl, hpc, hlt, hb', hcp⟩
    rw [bs_ofBs] at hpc hcp ⊢
    exact ⟨C, rfl, ⟨hpc, hlt⟩, below_step hb hb', hcp⟩
  generalize (Lib.cut (bs t) [10]).2.2 = f at *
  generalize fieldsR (bs t) = fs at *
  generalize ofBs (lineR (bs t)) = ln at *
  generalize ofBs (restR (bs t)) = rs at *
  clear hg
  go_enter Tryz.func145, Tryz.ntmps145
  go_wp2_with (first
    | (go_at_call 79; refine (CU.out).mono ?_; rintro e w1 ⟨rfl, m, rfl⟩)
    | (go_at_call 195; refine (SP.out m).mono ?_; rintro e w2 ⟨C, rfl, hF, hb, hcp⟩))
  go_ret2
  exact ⟨_, _, rfl, hF, Nat.le_refl _, hb, hcp⟩

end Go.Proofs.YtaelaldmibgibaaGreatDoor

namespace Go.Proofs.YtaelaldmibgibaaGreatDoor
open Go.RowKit Go.Lib

theorem info_u8 : (Tryz.prog.info? 5).map (fun i => (i.zero, i.size, i.bytes)) = some (some (.int .u8 0), 1, 1) := by kernel_rfl
theorem app_u8 {ops : Array Oper} {rest : List Oper} {o : Oper} {a : Act} {Q : Exit → Act → World → Prop} (w : World) (hgd : o.guard = none) (s x : Operand) (ho : o.op = .call { callee := .builtin .append, args := #[s, x], argTypes := #[53, 53] }) (base : Nat) (v : Value) (n : Nat) (xs : List Value) (hs : a.eval s = v) (hown : w.ownsRow base 5 1 v n xs)
    (k : Nat) (y : Int) (hx : a.eval x = .slice (some ⟨k, 0, none⟩) 1 1) (hc : w.cell? ⟨k, 0, none⟩ = some (.int .u8 y)) (hn : n ≤ 1000000000000) (hb : base ≤ w.heap.size)
    (h : ∀ g cap w1, w1.ownsRow base 5 1 (.slice (some ⟨g, 0, none⟩) (n + 1) cap) (n + 1) (xs ++ [.int .u8 y]) → w.grownBy w1 v.ownBlock → (v.ownBlock = some g ∨ g = w.heap.size) → g < w1.heap.size → wpList Tryz.prog ops Q rest (a.put o.dst (.slice (some ⟨g, 0, none⟩) (n + 1) cap)) w1) :
    wpList Tryz.prog ops Q (o :: rest) a w := by
  obtain ⟨i0, hi, hz0, hz1, hz2⟩ := info_parts info_u8
  refine wpList_append_lies w hgd s x 53 ho base 5 i0 _ 1 1 Tryz.underlying53 hi hz0 hz1 hz2 rfl (by decide) v n xs hs hown ⟨k, 0, none⟩ 1 1 [.int .u8 y] hx rfl ?_ ?_ (by omega) (by unfold maxLen; omega) (by omega) hb _ rfl h
  · intro j u hj
    match j, hj with
    | 0, hj => simp at hj; subst hj; simpa [Addr.add] using hc
  · intro u hu; simp at hu; subst hu; rfl
theorem below_drewN {B : Nat} {w w' : World} (h : Below B w w') (q : Nat) : Below B w (w'.drewN q) := ⟨h.os, h.tape, h.output, h.size, h.block⟩
def bvs (l : Bs) : List Value := l.map (fun c => Value.int .u8 (c.toNat : Int))
/-- bytes in memory -/
structure RH (w wr : World) (v : Value) (u : Bs) : Prop where
  bel : Below w.heap.size w wr
  own : wr.ownsRow w.heap.size 5 1 v u.length (bvs u)
theorem pairsR_app : ∀ (k : Nat) (a b : Bs), a.length = 2 * k → pairsR (a ++ b) = (pairsR a).bind fun x => (pairsR b).map (x ++ ·)
  | 0, a, b, h => by
    have : a = [] := List.length_eq_zero_iff.1 (by omega)
    subst this
    cases h : pairsR b <;> simp [pairsR, h]
  | k + 1, a, b, h => by
    match a, h with
    | x :: y :: a, h =>
      rw [List.cons_append, List.cons_append, pairsR, pairsR, pairsR_app k a b (by simp at h; omega)]
      split
      · rfl
      · cases pairsR a with
        | none => rfl
        | some z => cases pairsR b <;> simp

set_option maxHeartbeats 400000 in
theorem ReadHex_any (t : ByteArray) (ht : t.size ≤ 10000000) (w : World) :
    Calls Tryz.prog 252 #[.string t] w fun e w' => e = .returned (.tuple #[.string (ofBs ((hexR (bs t)).getD [])), .bool (hexR (bs t)).isSome]) ∧ Below w.heap.size w w' := by
  have CP : Hid (Calls Tryz.prog 143 #[.string t, .string ⟨#[61]⟩] w fun e w' => e = .returned (.tuple #[.string (ofBs (trimPrefix (bs t) [61])), .bool (hasPrefix (bs t) [61])]) ∧ w' = w) := Tryz.strings_CutPrefix t ⟨#[61]⟩ w
  have IB : Hid (∀ (W : World) (c : UInt8), Calls Tryz.prog 266 #[.string ⟨#[48, 49, 50, 51, 52, 53, 54, 55, 56, 57, 97, 98, 99, 100, 101, 102]⟩, .int .u8 (c.toNat : Int)] W fun e w' => e = .returned (.int .i64 (dv c)) ∧ w' = W) := fun W c => by
    refine (Tryz.strings_IndexByte ⟨#[48, 49, 50, 51, 52, 53, 54, 55, 56, 57, 97, 98, 99, 100, 101, 102]⟩ (c.toNat : Int) W).mono ?_
    rintro e w' ⟨rfl, rfl⟩
    rw [Lib.byte_back']
    exact ⟨rfl, rfl⟩
  have HR : Hid (hexR (bs t) = if hasPrefix (bs t) [61] = true ∧ (trimPrefix (bs t) [61]).length % 2 = 0 ∧ (trimPrefix (bs t) [61]).length ≤ 120 then pairsR (trimPrefix (bs t) [61]) else none) := rfl
  have hsz : (ofBs (trimPrefix (bs t) [61])).size ≤ 10000000 := by
    rw [← bs_len, bs_ofBs]
    unfold trimPrefix
    split
    · rw [List.length_drop, bs_len]; omega
    · rw [bs_len]; omega
  have HQ : Hid (bs (ofBs (trimPrefix (bs t) [61])) = trimPrefix (bs t) [61]) := bs_ofBs _
  generalize hexR (bs t) = R at *
  generalize hasPrefix (bs t) [61] = hp at *
  generalize ofBs (trimPrefix (bs t) [61]) = q at *
  rw [← HQ.out, bs_len] at HR
  clear HQ
  cases hp with
  | false =>
    have e : R = none := by rw [HR.out, if_neg (by simp)]
    subst e
    go_enter Tryz.func252, Tryz.ntmps252
    go_wp2_with (go_at_call 143; refine (CP.out).mono ?_; rintro e w ⟨rfl, rfl⟩)
    go_ret2
    exact ⟨rfl, Below.refl _ _⟩
  | true =>
    have dm : ((q.size : Int).tmod 2) = ((q.size % 2 : Nat) : Int) := by rw [Int.tmod_eq_emod_of_nonneg (by omega)]; simp
    by_cases h2 : q.size % 2 = 0
    · rw [h2] at dm
      by_cases h3 : q.size ≤ 120
      · have HR' : Hid (R = pairsR (bs q)) := by unfold Hid; rw [HR.out, if_pos ⟨rfl, h2, h3⟩]
        have d3 : decide ((120 : Int) < (q.size : Int)) = false := by simp; omega
        clear HR
        obtain ⟨zs, hzs, hmk⟩ : ∃ zs : Array Value, zs.size = 60 ∧ ∀ W, (Instr.makeSlice 53 (.int .i64 0) (.int .i64 60)).run Tryz.prog W = .ok (.slice (some ⟨W.heap.size, 0, none⟩) 0 60) (W.alloc (.cells zs 5)) := ⟨Array.replicate 60 (.int .u8 0), rfl, fun _ => by kernel_rfl⟩
        have H0 : Hid (RH w (w.alloc (.cells zs 5)) (.slice (some ⟨w.heap.size, 0, none⟩) 0 60) []) := ⟨(Below.refl _ _).alloc (Nat.le_refl _) _, World.ownsRow_made w zs 60 (Nat.le_refl _) (by unfold maxLen; omega) (by rw [hzs])⟩
        go_enter Tryz.func252, Tryz.ntmps252
        go_wp2_with (go_at_call 143; refine (CP.out).mono ?_; rintro e w ⟨rfl, rfl⟩)
        go_loopw [6, 7] (fun tv iv wr => ∃ (i : Nat) (u : Bs), i ≤ q.size ∧ i % 2 = 0 ∧ iv = .int .i64 i ∧ (∃ g c, tv = .slice (some ⟨g, 0, none⟩) u.length c) ∧ Hid (pairsR ((bs q).take i) = some u) ∧ Hid (RH w wr tv u)) (fun _ iv _ => q.size - (intOf iv).toNat)
        case atStart => exact ⟨0, [], Nat.zero_le _, rfl, rfl, ⟨_, _, rfl⟩, rfl, H0⟩
        case round =>
          obtain ⟨i, u, hi, hi2, rfl, ⟨tg, tcp, rfl⟩, hu, hH⟩ := hrel
          clear H0
          have hul : Hid (2 * u.length = i) := by
            have := (pairsR_iff _ _).1 hu.out
            have hl := hexT_len u
            rw [← this, List.length_take, bs_len] at hl
            unfold Hid
            omega
          by_cases hin : i < q.size
          · have hin1 : i + 1 < q.size := by omega
            have gx : (bs q)[i]? = some q[i] := by rw [at_bs q i hin, getElem!_pos q.data i hin]; rfl
            have gy : (bs q)[i + 1]? = some q[i + 1] := by rw [at_bs q (i + 1) hin1, getElem!_pos q.data (i + 1) hin1]; rfl
            have PS : Hid (∀ b, pairsR ((bs q).take i ++ b) = (pairsR b).map (u ++ ·)) := fun b => by
              rw [pairsR_app (i / 2) _ _ (by rw [List.length_take, bs_len]; omega), hu.out]
              rfl
            have ES : Hid (bs q = (bs q).take i ++ q[i] :: q[i + 1] :: (bs q).drop (i + 2)) := by
              unfold Hid
              conv => lhs; rw [← List.take_append_drop i (bs q)]
              rw [List.drop_eq_getElem_cons (by rw [bs_len]; exact hin), List.drop_eq_getElem_cons (by rw [bs_len]; exact hin1)]
              have e1 := (List.getElem?_eq_some_iff.1 gx).2
              have e2 := (List.getElem?_eq_some_iff.1 gy).2
              rw [e1, e2]
            have ET : Hid ((bs q).take (i + 2) = (bs q).take i ++ [q[i], q[i + 1]]) := by
              unfold Hid
              rw [List.take_add_one, gy, List.take_add_one, gx]
              simp
            have BR : Hid (dv q[i] < 0 ∨ dv q[i + 1] < 0 → R = none) := fun h => by
              rw [HR'.out, ES.out, PS.out, pairsR, if_pos h]
              rfl
            clear gx gy
            have hwr : IntKind.i64.wrap ((i : Int) + 1) = (i : Int) + 1 := wrap_small _ (by omega) (by omega)
            have hi0 : (0 : Int) ≤ (i : Int) + 1 := by omega
            have hi1 : (i : Int) + 1 < (q.size : Int) := by omega
            rcases dv_spec q[i] with hx | ⟨a, ha, hx, -⟩
            · have eR : R = none := BR.out (.inl (by omega))
              subst eR
              have dx : decide (dv q[i] < 0) = true := by rw [hx]; rfl
              go_wp2_with fail
              go_quiet ((go_at_call 266; exact (IB.out _ _).mono fun _ _ h => ⟨h.1, _, h.2⟩))
              go_wp2
              go_ret2
              exact ⟨rfl, below_drewN hH.out.bel _⟩
            · rcases dv_spec q[i + 1] with hy | ⟨b, hb, hy, -⟩
              · have eR : R = none := BR.out (.inr (by omega))
                subst eR
                go_wp2_with fail
                go_quiet ((go_at_call 266; exact (IB.out _ _).mono fun _ _ h => ⟨h.1, _, h.2⟩))
                go_wp2
                go_ret2
                exact ⟨rfl, below_drewN hH.out.bel _⟩
              · have own := hH.out.own
                have PU : Hid (pairsR ((bs q).take (i + 2)) = some (u ++ [UInt8.ofNat (16 * a + b)])) := by
                  unfold Hid
                  rw [ET.out, PS.out, pairsR, if_neg (by omega), hx, hy]
                  rfl
                clear PS ES ET BR
                go_wp2_with fail
                go_quiet ((go_at_call 266; exact (IB.out _ _).mono fun _ _ h => ⟨h.1, _, h.2⟩))
                have hz0 : w.heap.size ≤ wr.heap.size := hH.out.bel.size
                have hul' : u.length ≤ 10000000 := by have := hul.out; omega
                have OW : Hid (∀ o, ((wr.drewN nq).alloc o).ownsRow w.heap.size 5 1 (.slice (some ⟨tg, 0, none⟩) u.length tcp) u.length (bvs u)) := fun o => World.ownsRow.alloc (ownsRow_keep own (fun _ _ => rfl)) o
                have d3' : decide ((a : Int) < 0) = false := by simp
                have d4' : decide ((b : Int) < 0) = false := by simp
                have HC : ∀ y t', ((wr.drewN nq).alloc (.cells #[y] t')).cell? ⟨wr.heap.size, 0, none⟩ = some y := fun y t' => by
                  have q' : ((wr.drewN nq).alloc (.cells #[y] t')).heap[wr.heap.size]? = some (.cells #[y] t' (0, 0)) := heap_alloc_new (wr.drewN nq) (.cells #[y] t')
                  unfold World.cell?
                  simp only [q']
                  rfl
                have HZ : ∀ o, w.heap.size ≤ ((wr.drewN nq).alloc o).heap.size := fun o => by
                  have : ((wr.drewN nq).alloc o).heap.size = wr.heap.size + 1 := World.size_alloc (wr.drewN nq) o
                  omega
                rw [hx, hy]
                clear hmk dm hwr hx hy d3 hzs own
                go_wp2_with (at_builtin; refine app_u8 _ rfl (.tmp 50) (.tmp 56) rfl w.heap.size _ _ _ rfl (OW.out _) wr.heap.size (16 * (a : Int) + (b : Int)) rfl (HC _ _) (by omega) (HZ _) ?_; intro g3 c3 w3 ho3 hgr3 hat3 hl3)
                have hv : (UInt8.ofNat (16 * a + b)).toNat = 16 * a + b := by rw [UInt8.toNat_ofNat']; omega
                refine ⟨⟨i + 2, u ++ [UInt8.ofNat (16 * a + b)], by omega, by omega, by go_num, ⟨g3, c3, by simp⟩, PU, ?_⟩, by simp [intOf]; omega⟩
                refine ⟨?_, ?_⟩
                · refine Below.grown ((below_drewN hH.out.bel nq).alloc hz0 _) hgr3 (HZ _) (fun k hk => ?_)
                  exact (World.ownsRow.lt hH.out.own k hk).1
                · have e : bvs (u ++ [UInt8.ofNat (16 * a + b)]) = bvs u ++ [.int .u8 (16 * (a : Int) + (b : Int))] := by
                    unfold bvs
                    rw [List.map_append, List.map_singleton, hv]
                    simp
                  rw [e, List.length_append]
                  exact ho3
          · have ei : i = q.size := by omega
            subst ei
            have eR : R = some u := by rw [HR'.out, ← hu.out, ← bs_len, List.take_length]
            subst eR
            have own := hH.out.own
            have hcv : (convert 53 9 (.slice (some ⟨tg, 0, none⟩) u.length tcp)).run Tryz.prog wr = .ok (.string (ofBs u)) wr := by
              rcases own.2 with ⟨e, _⟩ | ⟨g, cap, cur, e, _, hgc, _, _, _, htk⟩
              · cases e
              · simp only [Value.slice.injEq, Option.some.injEq, Addr.mk.injEq, and_true, true_and] at e
                obtain ⟨rfl, rfl⟩ := e
                refine run_convert_bytes_back (P := Tryz.prog) _ 53 9 5 ⟨tg, 0, none⟩ tcp u Tryz.underlying53 Tryz.underlying5 Tryz.underlying9 (fun j hj => ?_)
                have h1 : (bvs u)[j]? = some (.int .u8 (u[j].toNat : Int)) := by simp [bvs, hj]
                have e : (⟨tg, 0, none⟩ : Addr).add j = ⟨tg, j, none⟩ := by unfold Addr.add; split <;> simp_all
                rw [e]
                rw [← htk, List.getElem?_take] at h1
                split at h1
                · simp only [World.cell?, hgc]
                  simpa using h1
                · cases h1
            go_wp2
            go_ret2
            exact ⟨rfl, hH.out.bel⟩
      · have e : R = none := by rw [HR.out, if_neg (by omega)]
        subst e
        have d3 : decide ((120 : Int) < (q.size : Int)) = true := by simp; omega
        go_enter Tryz.func252, Tryz.ntmps252
        go_wp2_with (go_at_call 143; refine (CP.out).mono ?_; rintro e w ⟨rfl, rfl⟩)
        go_ret2
        exact ⟨rfl, Below.refl _ _⟩
    · have e : R = none := by rw [HR.out, if_neg (by omega)]
      subst e
      rw [show q.size % 2 = 1 by omega] at dm
      go_enter Tryz.func252, Tryz.ntmps252
      go_wp2_with (go_at_call 143; refine (CP.out).mono ?_; rintro e w ⟨rfl, rfl⟩)
      go_ret2
      exact ⟨rfl, Below.refl _ _⟩

end Go.Proofs.YtaelaldmibgibaaGreatDoor

namespace Go.Proofs.YtaelaldmibgibaaGreatDoor
open Go.RowKit Go.Lib

/-- a file as a text tells it: text, birth, changes -/
structure FileR where
  text : Bs
  br : Nat
  bn : Nat
  ch : List Nat
/-- what the fields tell; none: no file can be read; some none: no file -/
def fileR (n : Nat) : List Bs → Option (Option FileR)
  | [a] => if a = [45] then some none else none
  | [a, b, c] => (eventR n a).bind fun e => (timeR n b).bind fun l => (hexR c).bind fun t => if e.2 ≤ l.getD e.1 0 then some (some ⟨t, e.1, e.2, l⟩) else none
  | _ => none
theorem fileR_none (n : Nat) (fs : List Bs) : fileR n fs = some none ↔ fs = [[45]] := by
  constructor
  · intro h
    match fs with
    | [] => cases h
    | [a] =>
      have h' : (if a = [45] then some none else none : Option (Option FileR)) = some none := h
      by_cases e : a = [45]
      · rw [e]
      · rw [if_neg e] at h'
        cases h'
    | [a, b] => cases h
    | [a, b, c] =>
      unfold fileR at h
      simp only [Option.bind_eq_some_iff] at h
      obtain ⟨_, _, _, _, _, _, h⟩ := h
      split at h <;> cases h
    | a :: b :: c :: d :: r => cases h
  · rintro rfl
    rfl
theorem fileR_some (n : Nat) (hn : 1 ≤ n) (h6 : n ≤ 6) (fs : List Bs) (f : FileR) : fileR n fs = some (some f) ↔
    f.br < n ∧ 1 ≤ f.bn ∧ f.bn ≤ 1000000000 ∧ f.ch.length = n ∧ (∀ v ∈ f.ch, v ≤ 1000000000) ∧ f.text.length ≤ 60 ∧ f.bn ≤ f.ch.getD f.br 0 ∧
    fs = [decDigits f.br ++ 58 :: decDigits f.bn, timeT f.ch, 61 :: hexT f.text] := by
  constructor
  · intro h
    match fs with
    | [] => cases h
    | [a] =>
      have h' : (if a = [45] then some none else none : Option (Option FileR)) = some (some f) := h
      by_cases e : a = [45]
      · rw [if_pos e] at h'
        cases h'
      · rw [if_neg e] at h'
        cases h'
    | [a, b] => cases h
    | [a, b, c] =>
      unfold fileR at h
      simp only [Option.bind_eq_some_iff] at h
      obtain ⟨e, h1, l, h2, t, h3, h4⟩ := h
      split at h4
      · rename_i hc
        cases h4
        obtain ⟨q1, q2, q3, rfl⟩ := (eventR_iff n h6 a e.1 e.2).1 h1
        obtain ⟨q5, q6, rfl⟩ := (timeR_iff n hn b l).1 h2
        obtain ⟨q7, rfl⟩ := (hexR_iff c t).1 h3
        exact ⟨q1, q2, q3, q5, q6, q7, hc, rfl⟩
      · cases h4
    | a :: b :: c :: d :: r => cases h
  · rintro ⟨q1, q2, q3, q4, q5, q6, q7, rfl⟩
    show ((eventR n (decDigits f.br ++ 58 :: decDigits f.bn)).bind fun e => (timeR n (timeT f.ch)).bind fun l => (hexR (61 :: hexT f.text)).bind fun t => if e.2 ≤ l.getD e.1 0 then some (some ⟨t, e.1, e.2, l⟩) else none) = some (some f)
    rw [(eventR_iff n h6 _ f.br f.bn).2 ⟨q1, q2, q3, rfl⟩, (timeR_iff n hn _ f.ch).2 ⟨q4, q5, rfl⟩, (hexR_iff _ f.text).2 ⟨q6, rfl⟩]
    simp only [Option.bind_some]
    rw [if_pos q7]

end Go.Proofs.YtaelaldmibgibaaGreatDoor

namespace Go.Proofs.YtaelaldmibgibaaGreatDoor
open Go.RowKit Go.Lib

/-- a piece of a list of texts in memory -/
structure FldO (w : World) (B o : Nat) (fs : List Bs) : Prop where
  pc : ∀ (j : Nat) p, fs[j]? = some p → w.cell? ⟨B, o + j, none⟩ = some (.string (ofBs p))
  lt : B < w.heap.size
theorem FldO.below {w w' : World} {B o : Nat} {fs : List Bs} (h : FldO w B o fs) (hb : Below w.heap.size w w') : FldO w' B o fs :=
  ⟨fun j p hp => (hb.cell (p := ⟨B, o + j, none⟩) h.lt).trans (h.pc j p hp), Nat.lt_of_lt_of_le h.lt hb.size⟩
/-- a record's file is what was told -/
def fIs (R : Rec) : Option FileR → Prop
  | none => R.text = ⟨#[]⟩ ∧ R.br = 0 ∧ R.bn = 0 ∧ R.ch = fun _ => 0
  | some f => R.text = ofBs f.text ∧ R.br = f.br ∧ R.bn = f.bn ∧ R.ch = lfn f.ch

attribute [local go_sem ↓] stFile stTime ldTime stEvent ldEvent
attribute [local go_sem] run_stFile stTime2 run_ldTime run_stEvent run_ldEvent
set_option maxHeartbeats 1000000 in
theorem readFile_one (B o C : Nat) (fs : List Bs) (h1 : fs.length = 1) (n : Nat) (w : World) (hF : FldO w B o fs) :
    Calls Tryz.prog 222 #[.slice (some ⟨B, o, none⟩) fs.length C, .int .i64 n] w fun e w' => ∃ R : Rec, e = .returned (.tuple #[fileVal R, .bool (fileR n fs).isSome]) ∧ (∀ f, fileR n fs = some f → fIs R f) ∧ Below w.heap.size w w' := by
  have M0 := hide (Mine.made' w #[.string ⟨#[]⟩, .int .i64 0, .int .i64 0, .int .i64 0, .int .i64 0, .int .i64 0, .int .i64 0, .int .i64 0, .int .i64 0] 193 (n := 9) rfl)
  have th0 := M0.out.there
  obtain ⟨p, rfl⟩ : ∃ p, fs = [p] := List.length_eq_one_iff.1 h1
  have c0 := (hF.below ((Below.refl _ _).alloc (Nat.le_refl _) (.cells #[.string ⟨#[]⟩, .int .i64 0, .int .i64 0, .int .i64 0, .int .i64 0, .int .i64 0, .int .i64 0, .int .i64 0, .int .i64 0] 193))).pc 0 p rfl
  rw [Nat.add_zero] at c0
  have c1 : ∀ vs, ((w.alloc (.cells #[.string ⟨#[]⟩, .int .i64 0, .int .i64 0, .int .i64 0, .int .i64 0, .int .i64 0, .int .i64 0, .int .i64 0, .int .i64 0] 193)).drew.setCells w.heap.size 0 vs).cell? ⟨B, o, none⟩ = some (.string (ofBs p)) := fun vs => by
    rw [World.cell?_setCells_out _ _ _ _ _ (fun e => absurd e (by have := hF.lt; simp only; omega))]
    simpa using c0
  have t45 : (⟨#[45]⟩ : ByteArray).toList = [45] := by simp
  have HP : Hid (fileR n [p] = if (ofBs p).toList == [45] then some none else none) := by
    unfold Hid
    rw [← t45]
    show (if p = [45] then some none else none : Option (Option FileR)) = _
    by_cases e : p = [45]
    · rw [if_pos e, if_pos]
      exact (seq_iff _ _).2 (by rw [e]; rfl)
    · rw [if_neg e, if_neg]
      intro q
      have := (seq_iff _ _).1 q
      exact e (by rw [← bs_ofBs p, this]; rfl)
  generalize fileR n [p] = FR at *
  generalize ofBs p = q at *
  clear h1 hF
  simp only [List.length_singleton]
  have th1 := M0.out.drew.there
  have RT : Hid (∀ (W : World) (b : Bool), Mine w w.heap.size 9 W → b = FR.isSome → (FR = none ∨ FR = some none) → ∃ R : Rec, Ending.returned (.tuple #[.agg #[.string ⟨#[]⟩, .int .i64 0, .int .i64 0, .int .i64 0, .int .i64 0, .int .i64 0, .int .i64 0, .int .i64 0, .int .i64 0], .bool b]) = .returned (.tuple #[fileVal R, .bool FR.isSome]) ∧ (∀ f, FR = some f → fIs R f) ∧ Below w.heap.size w W) := fun W b hM hb hF => by
    refine ⟨⟨⟨#[]⟩, 0, 0, fun _ => 0, fun _ => 0⟩, by rw [hb]; rfl, fun f hf => ?_, hM.below⟩
    rcases hF with e | e
    · rw [e] at hf; cases hf
    · rw [e] at hf; cases hf; exact ⟨rfl, rfl, rfl, rfl⟩
  clear t45
  have e : Hid ((q.toList == [45]) = FR.isSome ∧ (FR = none ∨ FR = some none)) := by
    unfold Hid
    rw [HP.out]
    cases q.toList == [45] <;> simp
  clear HP
  go_enter Tryz.func222, Tryz.ntmps222
  go_wp2_with fail
  go_region_law (fail)
  all_goals
    go_wp2
    exact bodyPost_ret (ret_cell_tmp Tryz.results222 (a := ⟨w.heap.size, 0, none⟩) rfl (load_stored (cs := [_, _, _, _, _, _, _, _, _]) M0.out.drew.there Tryz.underlying193 rfl size_file)) rfl (RT.out _ _ (Mine.setCells (p := True) ⟨M0.out.drew, trivial⟩ 0 _) e.out.1 e.out.2)

end Go.Proofs.YtaelaldmibgibaaGreatDoor

namespace Go.Proofs.YtaelaldmibgibaaGreatDoor
open Go.RowKit Go.Lib
attribute [local go_sem ↓] stFile
attribute [local go_sem] run_stFile
set_option maxHeartbeats 1000000 in
theorem readFile_else (B o C : Nat) (fs : List Bs) (hl : fs.length ≠ 3) (h1 : fs.length ≠ 1) (hl6 : fs.length ≤ 6) (n : Nat) (w : World) :
    Calls Tryz.prog 222 #[.slice (some ⟨B, o, none⟩) fs.length C, .int .i64 n] w fun e w' => ∃ R : Rec, e = .returned (.tuple #[fileVal R, .bool (fileR n fs).isSome]) ∧ (∀ f, fileR n fs = some f → fIs R f) ∧ Below w.heap.size w w' := by
  have d1 : ((fs.length : Int) != 3) = true := by simp; omega
  have d2 : ((fs.length : Int) == 1) = false := by simp; omega
  have M0 := hide (Mine.made' w #[.string ⟨#[]⟩, .int .i64 0, .int .i64 0, .int .i64 0, .int .i64 0, .int .i64 0, .int .i64 0, .int .i64 0, .int .i64 0] 193 (n := 9) rfl)
  have th0 := M0.out.there
  have th1 := M0.out.drew.there
  have e : fileR n fs = none := by
    match fs, hl, h1 with
    | [], _, _ => rfl
    | [a], _, h1 => exact absurd rfl h1
    | [a, b], _, _ => rfl
    | [a, b, c], hl, _ => exact absurd rfl hl
    | a :: b :: c :: d :: r, _, _ => rfl
  rw [e]
  generalize fs.length = L at *
  have RT : Hid (∀ (W : World), Mine w w.heap.size 9 W → ∃ R : Rec, Ending.returned (.tuple #[.agg #[.string ⟨#[]⟩, .int .i64 0, .int .i64 0, .int .i64 0, .int .i64 0, .int .i64 0, .int .i64 0, .int .i64 0, .int .i64 0], .bool false]) = .returned (.tuple #[fileVal R, .bool (none : Option (Option FileR)).isSome]) ∧ (∀ f, (none : Option (Option FileR)) = some f → fIs R f) ∧ Below w.heap.size w W) := fun W hM =>
    ⟨⟨⟨#[]⟩, 0, 0, fun _ => 0, fun _ => 0⟩, rfl, (fun f hf => by cases hf), hM.below⟩
  have d3 : (L == 1) = false := by simp; exact h1
  have d4 : decide (L = 1) = false := by simp; exact h1
  have h1' : ¬ (L : Int) = 1 := by omega
  clear e hl
  go_enter Tryz.func222, Tryz.ntmps222
  go_wp2_with fail
  go_region
  all_goals
    go_wp2
    exact bodyPost_ret (ret_cell_tmp Tryz.results222 (a := ⟨w.heap.size, 0, none⟩) rfl (load_stored (cs := [_, _, _, _, _, _, _, _, _]) M0.out.drew.there Tryz.underlying193 rfl size_file)) rfl (RT.out _ (Mine.setCells (p := True) ⟨M0.out.drew, trivial⟩ 0 _))

end Go.Proofs.YtaelaldmibgibaaGreatDoor
