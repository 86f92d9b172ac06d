/- The program's reader of numbers. The program's readers, without memory: pieces of a text; times. The program's reader of times. The program's reader of events. The program's sum, its last line, and Unseal. The program's Unseal, without memory. The program's Unseal. -/
import Derived.Test.YtaelaldmibgibaaGreatDoorU06
import Derived.Test.YtaelaldmibgibaaGreatDoorU28
import Derived.Test.YtaelaldmibgibaaGreatDoorShelfU
import Derived.Deep.RegionLaw
import Derived.Lib.Split
import Derived.Test.YtaelaldmibgibaaGreatDoorU14
import Derived.Test.YtaelaldmibgibaaGreatDoorU27
import Derived.Lib.LastIndexByte

set_option linter.unusedVariables false
set_option linter.unusedSimpArgs false

namespace Go.Proofs.YtaelaldmibgibaaGreatDoor
open Go.RowKit Go.Lib Go.Sort

/-- the variables of Go's library that the readers ask -/
structure Glob (w : World) : Prop where
  max : ∃ m, w.cell? ⟨0, 0, none⟩ = some (.int .i64 m)
  syn : ∃ te pe, w.cell? ⟨2, 0, none⟩ = some (.iface te pe)
  rng : ∃ te pe, w.cell? ⟨3, 0, none⟩ = some (.iface te pe)
  tab : Lib.TabIs Tryz.prog w "internal/strconv.uint64pow10" .u64 Lib.pow10Tab
  sz : 8 ≤ w.heap.size
theorem glob_pow : Tryz.prog.globalNamed "internal/strconv.uint64pow10" = some 1 := by kernel_rfl
theorem Glob.below {w w' : World} (h : Glob w) (hb : Below w.heap.size w w') : Glob w' where
  max := by obtain ⟨m, q⟩ := h.max; exact ⟨m, (hb.cell (p := ⟨0, 0, none⟩) (by have := h.sz; simp only; omega)).trans q⟩
  syn := by obtain ⟨a, b, q⟩ := h.syn; exact ⟨a, b, (hb.cell (p := ⟨2, 0, none⟩) (by have := h.sz; simp only; omega)).trans q⟩
  rng := by obtain ⟨a, b, q⟩ := h.rng; exact ⟨a, b, (hb.cell (p := ⟨3, 0, none⟩) (by have := h.sz; simp only; omega)).trans q⟩
  tab := by
    have h1 := h.tab
    unfold Lib.TabIs World.var? at *
    rw [glob_pow] at *
    simp only [Option.bind_eq_bind, Option.bind_some] at *
    rw [hb.block 1 (by have := h.sz; omega)]
    exact h1
  sz := Nat.le_trans h.sz hb.size

theorem grow_below (w : World) (k : Nat) (os : Array Obj) : Below w.heap.size w (grow (w.drewN k) os) := by
  have h : (w.drewN k).heap = w.heap := rfl
  refine ⟨rfl, rfl, rfl, ?_, fun j hj => ?_⟩
  · simp [grow, h]
  · simp only [grow, h]
    rw [Array.getElem?_append_left hj]

/-- the number that a text tells -/
def numR (t : Bs) : Option Nat := match atoiAll t with
  | .ok v => if 0 ≤ v ∧ v ≤ 1000000000 ∧ decDigits v.toNat = t then some v.toNat else none
  | _ => none
theorem numR_told (n : Nat) (h : n ≤ 1000000000) : numR (decDigits n) = some n := by
  unfold numR
  rw [atoi_dig n h]
  simp only
  rw [if_pos ⟨by omega, by omega, by rw [Int.toNat_natCast]⟩, Int.toNat_natCast]
theorem numR_iff (t : Bs) (n : Nat) : numR t = some n ↔ n ≤ 1000000000 ∧ t = decDigits n := by
  constructor
  · intro h
    unfold numR at h
    split at h
    · split at h
      · rename_i v _ hc
        simp at h
        subst h
        exact ⟨by omega, hc.2.2.symm⟩
      · cases h
    · cases h
  · rintro ⟨h1, rfl⟩
    exact numR_told n h1

set_option maxHeartbeats 400000 in
theorem ReadNumber_any (t : ByteArray) (ht : t.size ≤ 1000000000000) (w : World) (hg : Glob w) :
    Calls Tryz.prog 144 #[.string t] w fun e w' => e = .returned (.tuple #[.int .i64 ((numR (bs t)).getD 0 : Nat), .bool (numR (bs t)).isSome]) ∧ Below w.heap.size w w' := by
  have HG := hide hg
  cases hA : atoiAll (bs t) with
  | range =>
    have e : numR (bs t) = none := by unfold numR; rw [hA]
    rw [e]
    obtain ⟨te, pe, hv⟩ := hg.rng
    have AT := hide (Tryz.strconv_Atoi_range t (by omega) hA _ w hv (.inr ⟨te, pe, rfl⟩))
    clear hg hv
    go_enter Tryz.func144, Tryz.ntmps144
    go_wp2_with (go_at_call 194; refine (AT.out).mono ?_; rintro e w' ⟨N, rfl, _, _, hb⟩)
    go_ret2
    exact ⟨rfl, hb⟩
  | ok v =>
    have AT : Hid (Calls Tryz.prog 194 #[.string t] w fun e w' => e = .returned (.tuple #[.int .i64 v, .nilIface]) ∧ Below w.heap.size w w') := (Tryz.strconv_Atoi_ok t (by omega) v hA w).mono fun e w' h => ⟨h.1, by
      rcases h.2 with rfl | ⟨t', rfl⟩
      · exact Below.refl _ _
      · exact Lib.bytesWorld_below _ _ _⟩
    obtain ⟨dd, hdd⟩ : ∃ dd : ByteArray, dd = ⟨(decDigits v.toNat).toArray⟩ := ⟨_, rfl⟩
    have IT : Hid (∀ W, Below w.heap.size w W → 0 ≤ v → v ≤ 1000000000 → Calls Tryz.prog 72 #[.int .i64 v] W fun e w' => e = .returned (.string dd) ∧ Below w.heap.size w w') := fun W hb h0 h1 => by
      refine (Tryz.strconv_Itoa v (by omega) (by omega) W (hg.below hb).tab).mono ?_
      rintro e w' ⟨rfl, k, os, rfl⟩
      refine ⟨?_, below_step hb (grow_below W k os)⟩
      rw [hdd]
      unfold Lib.itoa
      rw [if_neg (by omega)]
    have HD := hide hdd
    clear hg hdd
    by_cases h0 : 0 ≤ v
    · by_cases h1 : v ≤ 1000000000
      · have d0 : decide (v < 0) = false := by simp; omega
        have d1 : decide (1000000000 < v) = false := by simp; omega
        cases hc : (dd.toList == t.toList) with
        | true =>
          have e : numR (bs t) = some v.toNat := by
            unfold numR
            rw [hA]
            simp only
            rw [if_pos ⟨h0, h1, by rw [← (seq_iff _ _).1 hc, HD.out]; simp [bs]⟩]
          rw [e]
          go_enter Tryz.func144, Tryz.ntmps144
          go_wp2_with (first
            | (go_at_call 194; refine (AT.out).mono ?_; rintro e w' ⟨rfl, hb⟩; have HB := hide hb; clear hb)
            | (go_at_call 72; refine (IT.out _ HB.out h0 h1).mono ?_; rintro e w'' ⟨rfl, hb'⟩; have HB' := hide hb'; clear hb'))
          go_ret2
          refine ⟨?_, HB'.out⟩
          rw [Option.getD_some, Int.toNat_of_nonneg h0]
          rfl
        | false =>
          have e : numR (bs t) = none := by
            unfold numR
            rw [hA]
            simp only
            rw [if_neg]
            rintro ⟨_, _, q⟩
            have : dd = t := by rw [HD.out, q]; rfl
            have q2 := (seq_iff _ _).2 this
            unfold seq at q2
            rw [q2] at hc
            cases hc
          rw [e]
          go_enter Tryz.func144, Tryz.ntmps144
          go_wp2_with (first
            | (go_at_call 194; refine (AT.out).mono ?_; rintro e w' ⟨rfl, hb⟩; have HB := hide hb; clear hb)
            | (go_at_call 72; refine (IT.out _ HB.out h0 h1).mono ?_; rintro e w'' ⟨rfl, hb'⟩; have HB' := hide hb'; clear hb'))
          go_ret2
          exact ⟨rfl, HB'.out⟩
      · have e : numR (bs t) = none := by unfold numR; rw [hA]; simp only; rw [if_neg (by omega)]
        rw [e]
        have d0 : decide (v < 0) = false := by simp; omega
        have d1 : decide (1000000000 < v) = true := by simp; omega
        go_enter Tryz.func144, Tryz.ntmps144
        go_wp2_with (go_at_call 194; refine (AT.out).mono ?_; rintro e w' ⟨rfl, hb⟩)
        go_ret2
        exact ⟨rfl, hb⟩
    · have e : numR (bs t) = none := by unfold numR; rw [hA]; simp only; rw [if_neg (by omega)]
      rw [e]
      have d0 : decide (v < 0) = true := by simp; omega
      go_enter Tryz.func144, Tryz.ntmps144
      go_wp2_with (go_at_call 194; refine (AT.out).mono ?_; rintro e w' ⟨rfl, hb⟩)
      go_ret2
      exact ⟨rfl, hb⟩
  | _ =>
    have e : numR (bs t) = none := by unfold numR; rw [hA]
    rw [e]
    obtain ⟨te, pe, hv⟩ := hg.syn
    have AT := hide (Tryz.strconv_Atoi_syntax t (by omega) hA _ w hv (.inr ⟨te, pe, rfl⟩))
    clear hg hv
    go_enter Tryz.func144, Tryz.ntmps144
    go_wp2_with (go_at_call 194; refine (AT.out).mono ?_; rintro e w' ⟨N, rfl, _, _, hb⟩)
    go_ret2
    exact ⟨rfl, hb⟩

end Go.Proofs.YtaelaldmibgibaaGreatDoor

namespace Go.Proofs.YtaelaldmibgibaaGreatDoor
open Go.Lib

theorem idx_one (c : UInt8) : ∀ s : Bs, (index s [c] = -1 ∧ c ∉ s) ∨ ∃ a b, s = a ++ c :: b ∧ c ∉ a ∧ index s [c] = (a.length : Int)
  | [] => .inl ⟨rfl, by simp⟩
  | x :: l => by
    unfold index
    by_cases e : c = x
    · subst e
      refine .inr ⟨[], l, rfl, by simp, ?_⟩
      rw [if_pos (by simp [List.isPrefixOf])]
      rfl
    · rw [if_neg (by simp [List.isPrefixOf, e])]
      rcases idx_one c l with ⟨h1, h2⟩ | ⟨a, b, h1, h2, h3⟩
      · rw [h1]
        exact .inl ⟨by simp, by simp [e, h2]⟩
      · refine .inr ⟨x :: a, b, by rw [h1]; rfl, by simp [e, h2], ?_⟩
        rw [h3, if_neg (by simp)]
        simp
theorem idx_hit (c : UInt8) (a b : Bs) (h : c ∉ a) : index (a ++ c :: b) [c] = (a.length : Int) := by
  rcases idx_one c (a ++ c :: b) with ⟨_, q⟩ | ⟨a', b', h1, h2, h3⟩
  · simp at q
  · rw [h3]
    have : a = a' := by
      clear h3
      induction a generalizing a' with
      | nil =>
        cases a' with
        | nil => rfl
        | cons y a' => simp at h1; exact absurd h1.1 (by simp at h2; exact h2.1)
      | cons x a ih =>
        cases a' with
        | nil => simp at h1; exact absurd h1.1.symm (by simp at h; exact h.1)
        | cons y a' =>
          simp at h1 h h2
          obtain ⟨rfl, h1⟩ := h1
          rw [ih h.2 a' h1 h2.2]
    rw [this]
theorem idx_miss (c : UInt8) (s : Bs) (h : c ∉ s) : index s [c] = -1 := by
  rcases idx_one c s with ⟨q, _⟩ | ⟨a, b, h1, _, _⟩
  · exact q
  · exact absurd (by rw [h1]; simp) h
theorem pieces_hit (c : UInt8) (k : Nat) (a b : Bs) (h : c ∉ a) : splitK [c] 0 (k + 1) (a ++ c :: b) = a :: splitK [c] 0 k b := by
  rw [splitK, idx_hit c a b h, if_neg (by simp)]
  simp
theorem pieces_miss (c : UInt8) (k : Nat) (s : Bs) (h : c ∉ s) : splitK [c] 0 k s = [s] := by
  cases k with
  | zero => rfl
  | succ k => rw [splitK, idx_miss c s h, if_pos (by simp)]
theorem splitK_ne (c : UInt8) (k : Nat) (s : Bs) : splitK [c] 0 k s ≠ [] := by
  cases k with
  | zero => simp [splitK]
  | succ k => rw [splitK]; split <;> simp
theorem sepBy_cons (c : UInt8) (x : Bs) (l : List Bs) (h : l ≠ []) : sepBy c (x :: l) = x ++ c :: sepBy c l := by
  cases l with
  | nil => exact absurd rfl h
  | cons y l => exact sepBy_cons2 c x y l
theorem sepBy_one (c : UInt8) (x : Bs) : sepBy c [x] = x := by simp [sepBy]
/-- the pieces make the text -/
theorem pieces_join (c : UInt8) : ∀ (k : Nat) (s : Bs), sepBy c (splitK [c] 0 k s) = s
  | 0, s => sepBy_one c s
  | k + 1, s => by
    rcases idx_one c s with ⟨_, q⟩ | ⟨a, b, h1, h2, _⟩
    · rw [pieces_miss c _ s q, sepBy_one]
    · rw [h1, pieces_hit c k a b h2, sepBy_cons c a _ (splitK_ne c k b), pieces_join c k b]
/-- the text's pieces are those that it was made of -/
theorem pieces_of (c : UInt8) : ∀ (ps : List Bs) (k : Nat), ps ≠ [] → (∀ p ∈ ps, c ∉ p) → ps.length ≤ k + 1 → splitK [c] 0 k (sepBy c ps) = ps
  | [], _, h, _, _ => absurd rfl h
  | [x], k, _, h, _ => by rw [sepBy_one]; exact pieces_miss c k x (h x (by simp))
  | x :: y :: l, k, _, h, hk => by
    cases k with
    | zero => simp at hk
    | succ k =>
      rw [sepBy_cons2, pieces_hit c k x _ (h x (by simp)), pieces_of c (y :: l) k (by simp) (fun p hp => h p (List.mem_cons_of_mem _ hp)) (by simp at hk ⊢; omega)]
theorem sepBy_len (c : UInt8) : ∀ ps : List Bs, ps.length ≤ (sepBy c ps).length + 1
  | [] => by simp
  | [x] => by simp
  | x :: y :: l => by
    have := sepBy_len c (y :: l)
    rw [sepBy_cons2]
    simp at this ⊢
    omega
theorem cut_hit (c : UInt8) (a b : Bs) (h : c ∉ a) : Lib.cut (a ++ c :: b) [c] = (a, b, true) := by
  unfold Lib.cut
  rw [idx_hit c a b h, if_pos (by omega)]
  simp
theorem cut_miss (c : UInt8) (s : Bs) (h : c ∉ s) : Lib.cut s [c] = (s, [], false) := by
  unfold Lib.cut
  rw [idx_miss c s h, if_neg (by omega)]

theorem dig_no (v : Nat) (c : UInt8) (h : isD c = false) : c ∉ decDigits v := fun q => by
  rw [dig_digits v c q] at h
  cases h
/-- a list of numbers out of its pieces -/
def numsR : List Bs → Option (List Nat)
  | [] => some []
  | p :: l => (numR p).bind fun v => (numsR l).map (v :: ·)
theorem numsR_iff : ∀ (ps : List Bs) (l : List Nat), numsR ps = some l ↔ (∀ v ∈ l, v ≤ 1000000000) ∧ ps = l.map decDigits
  | [], l => by
    unfold numsR
    constructor
    · intro h
      simp at h
      subst h
      simp
    · rintro ⟨_, h⟩
      have : l = [] := by simpa using h.symm
      rw [this]
  | p :: ps, l => by
    unfold numsR
    constructor
    · intro h
      simp only [Option.bind_eq_some_iff, Option.map_eq_some_iff] at h
      obtain ⟨v, h1, l', h2, rfl⟩ := h
      obtain ⟨a, rfl⟩ := (numR_iff _ _).1 h1
      obtain ⟨b, rfl⟩ := (numsR_iff ps l').1 h2
      refine ⟨fun x hx => ?_, rfl⟩
      rcases List.mem_cons.1 hx with rfl | hx
      · exact a
      · exact b x hx
    · rintro ⟨h1, h2⟩
      cases l with
      | nil => simp at h2
      | cons v l =>
        simp only [List.map_cons, List.cons.injEq] at h2
        simp only [Option.bind_eq_some_iff, Option.map_eq_some_iff]
        exact ⟨v, (numR_iff _ _).2 ⟨h1 v (by simp), h2.1⟩, l, (numsR_iff ps l).2 ⟨fun x hx => h1 x (List.mem_cons_of_mem _ hx), h2.2⟩, rfl⟩
/-- the time that a text tells -/
def timeR (n : Nat) (t : Bs) : Option (List Nat) := if (splitN t [44] (n + 1)).length = n then numsR (splitN t [44] (n + 1)) else none
theorem timeR_iff (n : Nat) (hn : 1 ≤ n) (t : Bs) (l : List Nat) : timeR n t = some l ↔ l.length = n ∧ (∀ v ∈ l, v ≤ 1000000000) ∧ t = timeT l := by
  unfold timeR
  constructor
  · intro h
    split at h
    · rename_i hl
      obtain ⟨h1, h2⟩ := (numsR_iff _ _).1 h
      refine ⟨?_, h1, ?_⟩
      · rw [h2, List.length_map] at hl
        exact hl
      · unfold timeT
        rw [← h2]
        exact (pieces_join 44 _ t).symm
    · cases h
  · rintro ⟨h1, h2, rfl⟩
    have hne : l ≠ [] := fun e => by rw [e] at h1; simp at h1; omega
    have e : splitN (timeT l) [44] (n + 1) = l.map decDigits := by
      unfold splitN timeT
      have hlen := sepBy_len 44 (l.map decDigits)
      rw [List.length_map] at hlen
      exact pieces_of 44 (l.map decDigits) _ (by simpa using hne) (fun p hp => by
        obtain ⟨v, _, rfl⟩ := List.mem_map.1 hp
        exact dig_no v 44 (by decide)) (by rw [List.length_map]; omega)
    rw [e, List.length_map, if_pos h1]
    exact (numsR_iff _ _).2 ⟨h2, rfl⟩

end Go.Proofs.YtaelaldmibgibaaGreatDoor

namespace Go.Proofs.YtaelaldmibgibaaGreatDoor
open Go.RowKit Go.Lib

theorem split_any (c : UInt8) (s : ByteArray) (m : Nat) (hm : 1 ≤ m) (hm6 : m ≤ 1000) (hs : s.size ≤ 10000000) (w : World) (hg : Glob w) :
    Calls Tryz.prog 195 #[.string s, .string ⟨#[c]⟩, .int .i64 m] w fun e w' => ∃ C, e = .returned (.slice (some ⟨w.heap.size, 0, none⟩) (splitN (bs s) [c] m).length C) ∧ (∀ (j : Nat) p, (splitN (bs s) [c] m)[j]? = some p → w'.cell? ⟨w.heap.size, j, none⟩ = some (.string (ofBs p))) ∧ w.heap.size < w'.heap.size ∧ Below w.heap.size w w' := by
  obtain ⟨mx, hmx⟩ := hg.max
  refine (Tryz.strings_SplitN s ⟨#[c]⟩ m mx w (by omega) hmx (Nat.le_refl 1) hm (by omega)).mono ?_
  rintro e w' ⟨rfl, rfl⟩
  have hd := splitB_data (⟨#[c]⟩ : ByteArray) 0 (min m (s.size + 1) - 1) s
  have hd' : (splitB ⟨#[c]⟩ 0 (min m (s.size + 1) - 1) s).map (·.data.toList) = splitN (bs s) [c] m := by
    rw [hd]
    unfold splitN
    rw [bs_len]
    rfl
  have hle := splitB_length_le (⟨#[c]⟩ : ByteArray) 0 (min m (s.size + 1) - 1) s
  generalize splitB ⟨#[c]⟩ 0 (min m (s.size + 1) - 1) s = ps at *
  refine ⟨min m (s.size + 1), ?_, fun j p hp => ?_, by simp, (Below.refl _ _).alloc (Nat.le_refl _) _⟩
  · rw [← hd', List.length_map]
  · rw [← hd', List.getElem?_map] at hp
    obtain ⟨q, hq, rfl⟩ := Option.map_eq_some_iff.1 hp
    have hj := (List.getElem?_eq_some_iff.1 hq).1
    simp only [World.cell?, heap_alloc_new, cellsOf]
    rw [List.getElem?_toArray, List.getElem?_append_left (by simpa using hj), List.getElem?_map, hq]
    rfl

/-- while a time is read -/
structure RT (w wr : World) (B : Nat) (ps : List Bs) (tb : Nat) (f : Nat → Int) : Prop where
  bel : Below w.heap.size w wr
  res : ∀ j, j < 6 → (wr.cell? ⟨w.heap.size, j, none⟩).isSome = true
  rfz : ∀ j, wr.frozen? ⟨w.heap.size, j, none⟩ = false
  pc : ∀ (j : Nat) p, ps[j]? = some p → wr.cell? ⟨B, j, none⟩ = some (.string (ofBs p))
  tc : ∀ j, j < 6 → wr.cell? ⟨tb, j, none⟩ = some (.int .i64 (f j))
  tfz : ∀ j, wr.frozen? ⟨tb, j, none⟩ = false
  o1 : w.heap.size < B
  o2 : B < tb
  o3 : tb < wr.heap.size
theorem RT.below {w wr w' : World} {B : Nat} {ps : List Bs} {tb : Nat} {f : Nat → Int} (h : RT w wr B ps tb f) (hb : Below wr.heap.size wr w') : RT w w' B ps tb f := by
  have h1 := h.o1
  have h2 := h.o2
  have h3 := h.o3
  have K : ∀ k j, k < wr.heap.size → w'.cell? ⟨k, j, none⟩ = wr.cell? ⟨k, j, none⟩ := fun k j hk => hb.cell (p := ⟨k, j, none⟩) hk
  have F : ∀ k j, k < wr.heap.size → w'.frozen? ⟨k, j, none⟩ = wr.frozen? ⟨k, j, none⟩ := fun k j hk => World.frozen?_of_block (w := wr) (a := ⟨k, j, none⟩) (hb.block k hk)
  exact ⟨below_step h.bel hb, fun j hj => by rw [K _ _ (by omega)]; exact h.res j hj, fun j => by rw [F _ _ (by omega)]; exact h.rfz j, fun j p hp => by rw [K _ _ (by omega)]; exact h.pc j p hp, fun j hj => by rw [K _ _ h3]; exact h.tc j hj, fun j => by rw [F _ _ h3]; exact h.tfz j, h1, h2, by have := hb.size; omega⟩
theorem RT.put {w wr : World} {B : Nat} {ps : List Bs} {tb : Nat} {f : Nat → Int} (h : RT w wr B ps tb f) (i : Nat) (x : Int) : RT w (wr.setCell ⟨tb, i, none⟩ (.int .i64 x)) B ps tb (fun j => if j = i then x else f j) := by
  have h1 := h.o1
  have h2 := h.o2
  have h3 := h.o3
  refine ⟨h.bel.setCell (by simp only; omega) _, fun j hj => isSome_setCell (h.res j hj), fun j => ?_, fun j p hp => ?_, fun j hj => ?_, fun j => ?_, h1, h2, by simpa using h3⟩
  · rw [World.frozen?_setCell]; exact h.rfz j
  · rw [World.cell?_setCell_far _ _ _ _ (by simp only; omega)]; exact h.pc j p hp
  · by_cases e : j = i
    · subst e
      rw [if_pos rfl]
      exact World.cell?_setCell_same _ _ _ (h.tc j hj)
    · rw [if_neg e, set_ne _ _ _ _ _ (Ne.symm e)]
      exact h.tc j hj
  · rw [World.frozen?_setCell]; exact h.tfz j

theorem RT.there {w wr : World} {B : Nat} {ps : List Bs} {tb : Nat} {f : Nat → Int} (h : RT w wr B ps tb f) : wr.there w.heap.size 0 6 := fun j hj => ⟨by simpa using h.res j hj, h.rfz _⟩
theorem RT.tthere {w wr : World} {B : Nat} {ps : List Bs} {tb : Nat} {f : Nat → Int} (h : RT w wr B ps tb f) : wr.there tb 0 6 := fun j hj => ⟨by simpa using (by rw [h.tc j hj]; rfl : (wr.cell? ⟨tb, j, none⟩).isSome = true), h.tfz _⟩
theorem RT.rng {w wr : World} {B : Nat} {ps : List Bs} {tb : Nat} {f : Nat → Int} (h : RT w wr B ps tb f) : rngv wr tb 0 6 = [.int .i64 (f 0), .int .i64 (f 1), .int .i64 (f 2), .int .i64 (f 3), .int .i64 (f 4), .int .i64 (f 5)] :=
  rngv_eq rfl (fun j v hj => by
    match j with
    | 0 => simp at hj; subst hj; exact h.tc 0 (by omega)
    | 1 => simp at hj; subst hj; exact h.tc 1 (by omega)
    | 2 => simp at hj; subst hj; exact h.tc 2 (by omega)
    | 3 => simp at hj; subst hj; exact h.tc 3 (by omega)
    | 4 => simp at hj; subst hj; exact h.tc 4 (by omega)
    | 5 => simp at hj; subst hj; exact h.tc 5 (by omega)
    | j + 6 => simp at hj)
theorem numsR_app : ∀ a b : List Bs, numsR (a ++ b) = (numsR a).bind fun x => (numsR b).map (x ++ ·)
  | [], b => by cases h : numsR b <;> simp [numsR, h]
  | p :: a, b => by
    rw [List.cons_append, numsR, numsR, numsR_app a b]
    cases numR p with
    | none => rfl
    | some v =>
      cases numsR a with
      | none => rfl
      | some x => cases numsR b <;> simp
theorem numsR_step {ps : List Bs} {i : Nat} {p : Bs} {vs : List Nat} {v : Nat} (h : numsR (ps.take i) = some vs) (hp : ps[i]? = some p) (hv : numR p = some v) : numsR (ps.take (i + 1)) = some (vs ++ [v]) := by
  have hi := (List.getElem?_eq_some_iff.1 hp).1
  have e : ps.take (i + 1) = ps.take i ++ [p] := by rw [List.take_add_one, hp]; rfl
  rw [e, numsR_app, h]
  simp [numsR, hv]
theorem numsR_stop {ps : List Bs} {i : Nat} {p : Bs} (hp : ps[i]? = some p) (hv : numR p = none) : numsR ps = none := by
  have hi := (List.getElem?_eq_some_iff.1 hp).1
  have e : ps = ps.take i ++ (p :: ps.drop (i + 1)) := by
    conv => lhs; rw [← List.take_append_drop i ps]
    rw [List.drop_eq_getElem_cons hi, (List.getElem?_eq_some_iff.1 hp).2]
  rw [e, numsR_app]
  cases numsR (ps.take i) with
  | none => rfl
  | some x => simp [numsR, hv]
theorem numsR_len {ps : List Bs} {vs : List Nat} (h : numsR ps = some vs) : vs.length = ps.length := by
  obtain ⟨_, rfl⟩ := (numsR_iff _ _).1 h
  simp
theorem sepBy_part (c : UInt8) : ∀ (l : List Bs) (p : Bs), p ∈ l → p.length ≤ (sepBy c l).length
  | [x], p, hp => by simp at hp; subst hp; simp [sepBy]
  | x :: y :: l, p, hp => by
    rw [sepBy_cons2]
    rcases List.mem_cons.1 hp with rfl | hp
    · simp
    · have := sepBy_part c (y :: l) p hp
      simp at this ⊢
      omega
def lfn (l : List Nat) : Nat → Int := fun j => (l.getD j 0 : Nat)
theorem lfn_snoc (l : List Nat) (v : Nat) : lfn (l ++ [v]) = fun j => if j = l.length then (v : Int) else lfn l j := by
  funext j
  unfold lfn
  by_cases e : j = l.length
  · subst e
    rw [if_pos rfl]
    simp
  · rw [if_neg e]
    rcases Nat.lt_or_ge j l.length with h | h
    · simp [List.getElem?_append_left h]
    · have h2 : l.length + 1 ≤ j := by omega
      simp [h, h2]

attribute [local go_sem ↓] stTime ldTime
attribute [local go_sem] stTime2 run_ldTime
set_option maxHeartbeats 400000 in
theorem ReadTime_any (t : ByteArray) (ht : t.size ≤ 10000000) (n : Nat) (h1 : 1 ≤ n) (h6 : n ≤ 6) (w : World) (hg : Glob w) :
    Calls Tryz.prog 146 #[.string t, .int .i64 n] w fun e w' => e = .returned (.tuple #[timeVal (lfn ((timeR n (bs t)).getD [])), .bool (timeR n (bs t)).isSome]) ∧ Below w.heap.size w w' := by
  have SP : Hid (∀ W, Glob W → Calls Tryz.prog 195 #[.string t, .string ⟨#[44]⟩, .int .i64 (n + 1)] W fun e w' => ∃ C, e = .returned (.slice (some ⟨W.heap.size, 0, none⟩) (splitN (bs t) [44] (n + 1)).length C) ∧ (∀ (j : Nat) p, (splitN (bs t) [44] (n + 1))[j]? = some p → w'.cell? ⟨W.heap.size, j, none⟩ = some (.string (ofBs p))) ∧ W.heap.size < w'.heap.size ∧ Below W.heap.size W w') := fun W hW => by
    have := split_any 44 t (n + 1) (by omega) (by omega) ht W hW
    simpa using this
  have HR : Hid (timeR n (bs t) = if (splitN (bs t) [44] (n + 1)).length = n then numsR (splitN (bs t) [44] (n + 1)) else none) := rfl
  have HG := hide hg
  clear hg
  have HL : Hid (∀ p ∈ splitN (bs t) [44] (n + 1), p.length ≤ 10000000) := fun p hp => by
    have := sepBy_part 44 _ p hp
    unfold splitN at this
    rw [pieces_join, bs_len] at this
    omega
  generalize timeR n (bs t) = R at *
  generalize splitN (bs t) [44] (n + 1) = ps at *
  have hz := size_Time
  have M0 := hide (Mine.made' w #[.int .i64 0, .int .i64 0, .int .i64 0, .int .i64 0, .int .i64 0, .int .i64 0] 186 (n := 6) rfl)
  go_enter Tryz.func146, Tryz.ntmps146
  go_wp2_with fail
  go_at_call 195
  refine (SP.out _ (HG.out.below M0.out.below)).mono ?_
  rintro e w1 ⟨C, rfl, hpc, hlt, hb⟩
  have M1 := hide (Mine.call (p := True) ⟨M0.out, trivial⟩ hb)
  have PC := hide hpc
  have L1 := hide hlt
  clear hpc hlt hb
  have th1 := M1.out.there
  by_cases hn : ps.length = n
  · have HR' : Hid (R = numsR ps) := by unfold Hid; rw [HR.out, if_pos hn]
    clear HR
    subst hn
    have hz1 := M1.out.below.size
    have hz2 : w.heap.size < w1.heap.size := M1.out.lt
    have T0 : Hid (RT w (w1.alloc (.cells #[.int .i64 0, .int .i64 0, .int .i64 0, .int .i64 0, .int .i64 0, .int .i64 0] 186)) (w.heap.size + 1) ps w1.heap.size (lfn [])) := by
      have M2 := M1.out.alloc (.cells #[.int .i64 0, .int .i64 0, .int .i64 0, .int .i64 0, .int .i64 0, .int .i64 0] 186)
      have q := Mine.made' w1 #[.int .i64 0, .int .i64 0, .int .i64 0, .int .i64 0, .int .i64 0, .int .i64 0] 186 (n := 6) rfl
      have hB := L1.out
      simp at hB
      refine ⟨M2.below, M2.some, M2.fz, fun j p hp => ?_, fun j hj => ?_, q.fz, by omega, by omega, by simp⟩
      · rw [World.cell?_alloc_old _ _ _ (by simp only; omega)]
        have := PC.out j p hp
        simpa using this
      · simp only [World.cell?, heap_alloc_new]
        match j, hj with
        | 0, _ | 1, _ | 2, _ | 3, _ | 4, _ | 5, _ => rfl
    clear PC L1 M0 M1 th1
    have dn : ((ps.length : Int) != (ps.length : Int)) = false := by simp
    go_wp2_with fail
    go_loopw [22] (fun iv wr => ∃ (i : Nat) (vs : List Nat), i ≤ ps.length ∧ iv = .int .i64 i ∧ Hid (numsR (ps.take i) = some vs) ∧ Hid (RT w wr (w.heap.size + 1) ps w1.heap.size (lfn vs))) (fun iv _ => ps.length - (intOf iv).toNat)
    case atStart => exact ⟨0, [], Nat.zero_le _, rfl, rfl, T0⟩
    case round =>
      obtain ⟨i, vs, hi, rfl, hv, hT⟩ := hrel
      clear T0
      by_cases hin : i < ps.length
      · obtain ⟨p, hp⟩ : ∃ p, ps[i]? = some p := ⟨ps[i], List.getElem?_eq_getElem hin⟩
        have pc := hT.out.pc i p hp
        have HQ : Hid (bs (ofBs p) = p) := bs_ofBs p
        have hq : (ofBs p).size ≤ 10000000 := by rw [← bs_len, bs_ofBs]; exact HL.out p (List.mem_of_getElem? hp)
        have HP := hide hp
        clear hp
        generalize ofBs p = q at *
        have RN : Hid (Calls Tryz.prog 144 #[.string q] wr fun e w' => e = .returned (.tuple #[.int .i64 ((numR p).getD 0 : Nat), .bool (numR p).isSome]) ∧ RT w w' (w.heap.size + 1) ps w1.heap.size (lfn vs)) := by
          refine (ReadNumber_any q (by omega) wr (HG.out.below hT.out.bel)).mono ?_
          rintro e w' ⟨rfl, hb⟩
          rw [HQ.out]
          exact ⟨rfl, hT.out.below hb⟩
        have i6 : i < 6 := by omega
        have hvl : Hid (vs.length = i) := by have := numsR_len hv.out; rw [List.length_take] at this; unfold Hid; omega
        cases hN : numR p with
        | none =>
          rw [hN] at RN
          have eR : R = none := by rw [HR'.out]; exact numsR_stop HP.out hN
          subst eR
          go_wp2_with (go_at_call 144; refine (RN.out).mono ?_; rintro e w5 ⟨rfl, h5⟩; have H5 := hide h5; clear h5; have t5 := H5.out.tc i i6; have f5 := H5.out.tfz i; have P5 := hide (H5.out.put i 0); have k5 := P5.out.there; dsimp only)
          exact bodyPost_ret (ret_cell_tmp Tryz.results146 (a := ⟨w.heap.size, 0, none⟩) rfl (load_stored (cs := [_, _, _, _, _, _]) P5.out.there Tryz.underlying186 rfl size_Time)) rfl ⟨rfl, Below.setCells P5.out.bel (Nat.le_refl _) _ _⟩
        | some v =>
          rw [hN] at RN
          simp only [Option.getD_some, Option.isSome_some] at RN
          go_wp2_with (go_at_call 144; refine (RN.out).mono ?_; rintro e w5 ⟨rfl, h5⟩; have H5 := hide h5; clear h5; have t5 := H5.out.tc i i6; have f5 := H5.out.tfz i; have P5 := hide (H5.out.put i v); dsimp only)
          refine ⟨⟨i + 1, vs ++ [v], by omega, by go_num, numsR_step hv.out HP.out hN, ?_⟩, by simp [intOf]; omega⟩
          unfold Hid
          rw [lfn_snoc, hvl.out]
          exact P5.out
      · have ei : i = ps.length := by omega
        subst ei
        have eR : R = some vs := by rw [HR'.out, ← hv.out, List.take_length]
        subst eR
        have k1 := hT.out.there
        have k2 := hT.out.tthere
        have k3 := hT.out.rng
        go_wp2
        exact bodyPost_ret (ret_cell_tmp Tryz.results146 (a := ⟨w.heap.size, 0, none⟩) rfl (load_stored (cs := [_, _, _, _, _, _]) hT.out.there Tryz.underlying186 rfl size_Time)) rfl ⟨rfl, Below.setCells hT.out.bel (Nat.le_refl _) _ _⟩
  · have e : R = none := by rw [HR.out, if_neg hn]
    subst e
    have dn : ((ps.length : Int) != (n : Int)) = true := by simp; omega
    go_wp2
    exact bodyPost_ret (ret_cell_tmp Tryz.results146 (a := ⟨w.heap.size, 0, none⟩) rfl (load_stored (cs := [_, _, _, _, _, _]) M1.out.there Tryz.underlying186 rfl size_Time)) rfl ⟨rfl, (Mine.setCells (p := True) ⟨M1.out, trivial⟩ 0 _).below⟩

end Go.Proofs.YtaelaldmibgibaaGreatDoor

namespace Go.Proofs.YtaelaldmibgibaaGreatDoor
open Go.RowKit Go.Lib

theorem cut_any (c : UInt8) (s : ByteArray) (hs : s.size ≤ 10000000) (w : World) (hg : Glob w) :
    Calls Tryz.prog 79 #[.string s, .string ⟨#[c]⟩] w fun e w' => e = .returned (.tuple #[.string (ofBs (Lib.cut (bs s) [c]).1), .string (ofBs (Lib.cut (bs s) [c]).2.1), .bool (Lib.cut (bs s) [c]).2.2]) ∧ ∃ n, w' = w.drewN n := by
  obtain ⟨mx, hmx⟩ := hg.max
  exact Tryz.strings_Cut s ⟨#[c]⟩ mx w (by omega) hmx
theorem cut_size (c : UInt8) (s : Bs) : (Lib.cut s [c]).1.length ≤ s.length ∧ (Lib.cut s [c]).2.1.length ≤ s.length := by
  rcases idx_one c s with ⟨_, q⟩ | ⟨a, b, rfl, h2, _⟩
  · rw [cut_miss c s q]; simp
  · rw [cut_hit c a b h2]; simp; omega

theorem numR_nil : numR [] = none := rfl
/-- the event that a text tells -/
def eventR (n : Nat) (t : Bs) : Option (Nat × Nat) := (numR (Lib.cut t [58]).1).bind fun r => (numR (Lib.cut t [58]).2.1).bind fun k => if r < n ∧ 1 ≤ k then some (r, k) else none
theorem eventR_iff (n : Nat) (hn : n ≤ 6) (t : Bs) (r k : Nat) : eventR n t = some (r, k) ↔ r < n ∧ 1 ≤ k ∧ k ≤ 1000000000 ∧ t = decDigits r ++ 58 :: decDigits k := by
  unfold eventR
  constructor
  · intro h
    simp only [Option.bind_eq_some_iff] at h
    obtain ⟨r', h1, k', h2, h3⟩ := h
    split at h3
    · rename_i hc
      cases h3
      rcases idx_one 58 t with ⟨_, q⟩ | ⟨a, b, rfl, q, _⟩
      · rw [cut_miss 58 t q, numR_nil] at h2
        cases h2
      · rw [cut_hit 58 a b q] at h1 h2
        obtain ⟨_, rfl⟩ := (numR_iff _ _).1 h1
        obtain ⟨h4, rfl⟩ := (numR_iff _ _).1 h2
        exact ⟨hc.1, hc.2, h4, rfl⟩
    · cases h3
  · rintro ⟨h1, h2, h3, rfl⟩
    rw [cut_hit 58 _ _ (dig_no r 58 (by decide)), numR_told r (by omega), numR_told k h3]
    simp [h1, h2]

theorem size_Event : (Tryz.prog.info? 191).map (·.size) = some 2 := by kernel_rfl
theorem ldEvent (p : Value) : Instr.loadAt 191 p = ldM 191 p := rfl
theorem stEvent (p v : Value) : Instr.storeAt 191 p v = stM 191 p v := rfl
theorem run_ldEvent (w : World) (b o : Nat) (ht : w.there b o 2) : (ldM 191 (.pointer (some ⟨b, o, none⟩))).run Tryz.prog w = .ok (.agg (rngv w b o 2).toArray) w :=
  run_loadAt_mid w b o _ (rngv w b o 2) _ (rngv_range (fun j hj => (ht j hj).1)) Tryz.underlying191 rfl (by rw [rngv_length]; exact size_Event)
theorem run_stEvent (w : World) (b o : Nat) (x0 x1 : Int) (ht : w.there b o 2) :
    (stM 191 (.pointer (some ⟨b, o, none⟩)) (.agg #[.int .i64 x0, .int .i64 x1])).run Tryz.prog w = .ok () (w.setCells b o [.int .i64 x0, .int .i64 x1]) :=
  run_storeAt_mid w b o _ #[.int .i64 x0, .int .i64 x1] ht size_Event (by simp [Value.oneCell'])

/-- while an event is read -/
structure RE (w wr : World) (eb : Nat) (x y : Int) : Prop where
  bel : Below w.heap.size w wr
  res : ∀ j, j < 2 → (wr.cell? ⟨w.heap.size, j, none⟩).isSome = true
  rfz : ∀ j, wr.frozen? ⟨w.heap.size, j, none⟩ = false
  c0 : wr.cell? ⟨eb, 0, none⟩ = some (.int .i64 x)
  c1 : wr.cell? ⟨eb, 1, none⟩ = some (.int .i64 y)
  efz : ∀ j, wr.frozen? ⟨eb, j, none⟩ = false
  o1 : w.heap.size < eb
  o2 : eb < wr.heap.size
theorem RE.below {w wr w' : World} {eb : Nat} {x y : Int} (h : RE w wr eb x y) (hb : Below wr.heap.size wr w') : RE w w' eb x y := by
  have h1 := h.o1
  have h2 := h.o2
  have K : ∀ k j, k < wr.heap.size → w'.cell? ⟨k, j, none⟩ = wr.cell? ⟨k, j, none⟩ := fun k j hk => hb.cell (p := ⟨k, j, none⟩) hk
  have F : ∀ k j, k < wr.heap.size → w'.frozen? ⟨k, j, none⟩ = wr.frozen? ⟨k, j, none⟩ := fun k j hk => World.frozen?_of_block (w := wr) (a := ⟨k, j, none⟩) (hb.block k hk)
  exact ⟨below_step h.bel hb, fun j hj => by rw [K _ _ (by omega)]; exact h.res j hj, fun j => by rw [F _ _ (by omega)]; exact h.rfz j, by rw [K _ _ h2]; exact h.c0, by rw [K _ _ h2]; exact h.c1, fun j => by rw [F _ _ h2]; exact h.efz j, h1, by have := hb.size; omega⟩
theorem RE.put0 {w wr : World} {eb : Nat} {x y : Int} (h : RE w wr eb x y) (z : Int) : RE w (wr.setCell ⟨eb, 0, none⟩ (.int .i64 z)) eb z y :=
  ⟨h.bel.setCell (by have := h.o1; simp only; omega) _, fun j hj => isSome_setCell (h.res j hj), fun j => by rw [World.frozen?_setCell]; exact h.rfz j, World.cell?_setCell_same _ _ _ h.c0, by rw [set_ne _ _ _ _ _ (by omega)]; exact h.c1, fun j => by rw [World.frozen?_setCell]; exact h.efz j, h.o1, by simpa using h.o2⟩
theorem RE.put1 {w wr : World} {eb : Nat} {x y : Int} (h : RE w wr eb x y) (z : Int) : RE w (wr.setCell ⟨eb, 1, none⟩ (.int .i64 z)) eb x z :=
  ⟨h.bel.setCell (by have := h.o1; simp only; omega) _, fun j hj => isSome_setCell (h.res j hj), fun j => by rw [World.frozen?_setCell]; exact h.rfz j, by rw [set_ne _ _ _ _ _ (by omega)]; exact h.c0, World.cell?_setCell_same _ _ _ h.c1, fun j => by rw [World.frozen?_setCell]; exact h.efz j, h.o1, by simpa using h.o2⟩
theorem RE.there {w wr : World} {eb : Nat} {x y : Int} (h : RE w wr eb x y) : wr.there w.heap.size 0 2 := fun j hj => ⟨by simpa using h.res j hj, h.rfz _⟩
theorem RE.ethere {w wr : World} {eb : Nat} {x y : Int} (h : RE w wr eb x y) : wr.there eb 0 2 := fun j hj => ⟨by
  match j, hj with
  | 0, _ => simp [h.c0]
  | 1, _ => simp [h.c1], h.efz _⟩
theorem RE.rng {w wr : World} {eb : Nat} {x y : Int} (h : RE w wr eb x y) : rngv wr eb 0 2 = [.int .i64 x, .int .i64 y] :=
  rngv_eq rfl (fun j v hj => by
    match j with
    | 0 => simp at hj; subst hj; exact h.c0
    | 1 => simp at hj; subst hj; exact h.c1
    | j + 2 => simp at hj)

attribute [local go_sem ↓] stEvent ldEvent
attribute [local go_sem] run_stEvent run_ldEvent
set_option maxHeartbeats 400000 in
theorem ReadEvent_any (t : ByteArray) (ht : t.size ≤ 10000000) (n : Nat) (h6 : n ≤ 6) (w : World) (hg : Glob w) :
    Calls Tryz.prog 251 #[.string t, .int .i64 n] w fun e w' => e = .returned (.tuple #[.agg #[.int .i64 ((eventR n (bs t)).getD (0, 0)).1, .int .i64 ((eventR n (bs t)).getD (0, 0)).2], .bool (eventR n (bs t)).isSome]) ∧ Below w.heap.size w w' := by
  have CU : Hid (∀ W, Glob W → Calls Tryz.prog 79 #[.string t, .string ⟨#[58]⟩] W fun e w' => e = .returned (.tuple #[.string (ofBs (Lib.cut (bs t) [58]).1), .string (ofBs (Lib.cut (bs t) [58]).2.1), .bool (Lib.cut (bs t) [58]).2.2]) ∧ ∃ n, w' = W.drewN n) := fun W hW => cut_any 58 t ht W hW
  have hsz := cut_size 58 (bs t)
  rw [bs_len] at hsz
  have HE : Hid (eventR n (bs t) = (numR (Lib.cut (bs t) [58]).1).bind fun r => (numR (Lib.cut (bs t) [58]).2.1).bind fun k => if r < n ∧ 1 ≤ k then some (r, k) else none) := rfl
  have HG := hide hg
  clear hg
  generalize eventR n (bs t) = R at *
  generalize Lib.cut (bs t) [58] = cc at *
  obtain ⟨a, b, f⟩ := cc
  have NA : Hid (∀ W, Glob W → Calls Tryz.prog 144 #[.string (ofBs a)] W fun e w' => e = .returned (.tuple #[.int .i64 ((numR a).getD 0 : Nat), .bool (numR a).isSome]) ∧ Below W.heap.size W w') := fun W hW => by
    have := ReadNumber_any (ofBs a) (by rw [← bs_len, bs_ofBs]; have := hsz.1; simp only at this; omega) W hW
    rw [bs_ofBs] at this
    exact this
  have NB : Hid (∀ W, Glob W → Calls Tryz.prog 144 #[.string (ofBs b)] W fun e w' => e = .returned (.tuple #[.int .i64 ((numR b).getD 0 : Nat), .bool (numR b).isSome]) ∧ Below W.heap.size W w') := fun W hW => by
    have := ReadNumber_any (ofBs b) (by rw [← bs_len, bs_ofBs]; have := hsz.2; simp only at this; omega) W hW
    rw [bs_ofBs] at this
    exact this
  have hab : ofBs a = ofBs b → a = b := fun e => by rw [← bs_ofBs a, e, bs_ofBs]
  simp only at CU HE
  generalize numR a = ra at *
  generalize numR b = rb at *
  generalize ofBs a = qa at *
  generalize ofBs b = qb at *
  clear hsz hab
  have M0 := hide (Mine.made' w #[.int .i64 0, .int .i64 0] 191 (n := 2) rfl)
  have E0 : Hid (∀ m, RE w (((w.alloc (.cells #[.int .i64 0, .int .i64 0] 191)).drewN m).alloc (.cells #[.int .i64 0, .int .i64 0] 191)) (w.heap.size + 1) 0 0) := fun m => by
    have M1 := (M0.out.drewN m).alloc (.cells #[.int .i64 0, .int .i64 0] 191)
    have q := Mine.made' ((w.alloc (.cells #[.int .i64 0, .int .i64 0] 191)).drewN m) #[.int .i64 0, .int .i64 0] 191 (n := 2) rfl
    have hz : ((w.alloc (.cells #[.int .i64 0, .int .i64 0] 191)).drewN m).heap.size = w.heap.size + 1 := by simp
    have hfz := q.fz
    rw [hz] at hfz
    have hc : ∀ j v, (#[Value.int .i64 0, .int .i64 0] : Array Value)[j]? = some v → (((w.alloc (.cells #[.int .i64 0, .int .i64 0] 191)).drewN m).alloc (.cells #[.int .i64 0, .int .i64 0] 191)).cell? ⟨w.heap.size + 1, j, none⟩ = some v := fun j v hj => by
      rw [← hz]
      simp only [World.cell?, heap_alloc_new]
      exact hj
    exact ⟨M1.below, M1.some, M1.fz, hc 0 _ rfl, hc 1 _ rfl, hfz, by omega, by simp⟩
  go_enter Tryz.func251, Tryz.ntmps251
  go_wp2_with fail
  go_at_call 79
  refine (CU.out _ (HG.out.below M0.out.below)).mono ?_
  rintro e w1 ⟨rfl, m, rfl⟩
  have E1 := hide (E0.out m)
  clear E0 M0 CU
  go_wp2_with fail
  generalize hW : (((w.alloc (.cells #[.int .i64 0, .int .i64 0] 191)).drewN m).alloc (.cells #[.int .i64 0, .int .i64 0] 191)) = W at *
  clear hW
  cases ra with
  | none =>
    have e : R = none := HE.out
    subst e
    clear HE
    simp only [Option.getD_none, Option.isSome_none] at NA
    generalize (rb.getD 0 : Nat) = vb at *
    generalize rb.isSome = ob at *
    go_at_call 144
    refine (NA.out _ (HG.out.below E1.out.bel)).mono ?_
    rintro e w5 ⟨rfl, h5⟩
    have H5 := hide (E1.out.below h5)
    clear h5
    have a5 := H5.out.c0
    have f5 := H5.out.efz 0
    have P5 := hide (H5.out.put0 0)
    dsimp only
    go_wp2_with (go_at_call 144; refine (NB.out _ (HG.out.below P5.out.bel)).mono ?_; rintro e w6 ⟨rfl, h6'⟩; have H6 := hide (P5.out.below h6'); clear h6'; have a6 := H6.out.c0; have b6 := H6.out.c1; have f6 := H6.out.efz 1; have P6 := hide (H6.out.put1 vb); have x6 := P6.out.c0; have y6 := P6.out.c1; have k6 := P6.out.there; have l6 := P6.out.ethere; have g6 := P6.out.rng; dsimp only)
    exact bodyPost_ret (ret_cell_tmp Tryz.results251 (a := ⟨w.heap.size, 0, none⟩) rfl (load_stored (cs := [_, _]) P6.out.there Tryz.underlying191 rfl size_Event)) rfl ⟨rfl, Below.setCells P6.out.bel (Nat.le_refl _) _ _⟩
  | some r =>
    simp only [Option.getD_some, Option.isSome_some] at NA
    cases rb with
    | none =>
      have e : R = none := HE.out
      subst e
      clear HE
      simp only [Option.getD_none, Option.isSome_none] at NB
      go_at_call 144
      refine (NA.out _ (HG.out.below E1.out.bel)).mono ?_
      rintro e w5 ⟨rfl, h5⟩
      have H5 := hide (E1.out.below h5)
      clear h5
      have a5 := H5.out.c0
      have f5 := H5.out.efz 0
      have P5 := hide (H5.out.put0 r)
      dsimp only
      go_wp2_with (go_at_call 144; refine (NB.out _ (HG.out.below P5.out.bel)).mono ?_; rintro e w6 ⟨rfl, h6'⟩; have H6 := hide (P5.out.below h6'); clear h6'; have a6 := H6.out.c0; have b6 := H6.out.c1; have f6 := H6.out.efz 1; have P6 := hide (H6.out.put1 0); have x6 := P6.out.c0; have y6 := P6.out.c1; have k6 := P6.out.there; have l6 := P6.out.ethere; have g6 := P6.out.rng; dsimp only)
      exact bodyPost_ret (ret_cell_tmp Tryz.results251 (a := ⟨w.heap.size, 0, none⟩) rfl (load_stored (cs := [_, _]) P6.out.there Tryz.underlying191 rfl size_Event)) rfl ⟨rfl, Below.setCells P6.out.bel (Nat.le_refl _) _ _⟩
    | some k =>
      simp only [Option.getD_some, Option.isSome_some] at NB
      by_cases hr : r < n
      · have d1 : decide ((n : Int) ≤ (r : Int)) = false := by simp; omega
        by_cases hk : 1 ≤ k
        · have e : R = some (r, k) := by rw [HE.out]; simp [hr, hk]
          subst e
          clear HE
          have d2 : decide ((k : Int) < 1) = false := by simp; omega
          go_at_call 144
          refine (NA.out _ (HG.out.below E1.out.bel)).mono ?_
          rintro e w5 ⟨rfl, h5⟩
          have H5 := hide (E1.out.below h5)
          clear h5
          have a5 := H5.out.c0
          have f5 := H5.out.efz 0
          have P5 := hide (H5.out.put0 r)
          dsimp only
          go_wp2_with (go_at_call 144; refine (NB.out _ (HG.out.below P5.out.bel)).mono ?_; rintro e w6 ⟨rfl, h6'⟩; have H6 := hide (P5.out.below h6'); clear h6'; have a6 := H6.out.c0; have b6 := H6.out.c1; have f6 := H6.out.efz 1; have P6 := hide (H6.out.put1 k); have x6 := P6.out.c0; have y6 := P6.out.c1; have k6 := P6.out.there; have l6 := P6.out.ethere; have g6 := P6.out.rng; dsimp only)
          exact bodyPost_ret (ret_cell_tmp Tryz.results251 (a := ⟨w.heap.size, 0, none⟩) rfl (load_stored (cs := [_, _]) P6.out.there Tryz.underlying191 rfl size_Event)) rfl ⟨rfl, Below.setCells P6.out.bel (Nat.le_refl _) _ _⟩
        · have e : R = none := by rw [HE.out]; simp [hk]
          subst e
          clear HE
          have d2 : decide ((k : Int) < 1) = true := by simp; omega
          go_at_call 144
          refine (NA.out _ (HG.out.below E1.out.bel)).mono ?_
          rintro e w5 ⟨rfl, h5⟩
          have H5 := hide (E1.out.below h5)
          clear h5
          have a5 := H5.out.c0
          have f5 := H5.out.efz 0
          have P5 := hide (H5.out.put0 r)
          dsimp only
          go_wp2_with (go_at_call 144; refine (NB.out _ (HG.out.below P5.out.bel)).mono ?_; rintro e w6 ⟨rfl, h6'⟩; have H6 := hide (P5.out.below h6'); clear h6'; have a6 := H6.out.c0; have b6 := H6.out.c1; have f6 := H6.out.efz 1; have P6 := hide (H6.out.put1 k); have x6 := P6.out.c0; have y6 := P6.out.c1; have k6 := P6.out.there; have l6 := P6.out.ethere; have g6 := P6.out.rng; dsimp only)
          exact bodyPost_ret (ret_cell_tmp Tryz.results251 (a := ⟨w.heap.size, 0, none⟩) rfl (load_stored (cs := [_, _]) P6.out.there Tryz.underlying191 rfl size_Event)) rfl ⟨rfl, Below.setCells P6.out.bel (Nat.le_refl _) _ _⟩
      · have e : R = none := by rw [HE.out]; simp [hr]
        subst e
        clear HE
        have d1 : decide ((n : Int) ≤ (r : Int)) = true := by simp; omega
        go_at_call 144
        refine (NA.out _ (HG.out.below E1.out.bel)).mono ?_
        rintro e w5 ⟨rfl, h5⟩
        have H5 := hide (E1.out.below h5)
        clear h5
        have a5 := H5.out.c0
        have f5 := H5.out.efz 0
        have P5 := hide (H5.out.put0 r)
        dsimp only
        go_wp2_with (go_at_call 144; refine (NB.out _ (HG.out.below P5.out.bel)).mono ?_; rintro e w6 ⟨rfl, h6'⟩; have H6 := hide (P5.out.below h6'); clear h6'; have a6 := H6.out.c0; have b6 := H6.out.c1; have f6 := H6.out.efz 1; have P6 := hide (H6.out.put1 k); have x6 := P6.out.c0; have y6 := P6.out.c1; have k6 := P6.out.there; have l6 := P6.out.ethere; have g6 := P6.out.rng; dsimp only)
        exact bodyPost_ret (ret_cell_tmp Tryz.results251 (a := ⟨w.heap.size, 0, none⟩) rfl (load_stored (cs := [_, _]) P6.out.there Tryz.underlying191 rfl size_Event)) rfl ⟨rfl, Below.setCells P6.out.bel (Nat.le_refl _) _ _⟩

end Go.Proofs.YtaelaldmibgibaaGreatDoor

namespace Go.Proofs.YtaelaldmibgibaaGreatDoor
open Go.RowKit Go.Lib

set_option maxHeartbeats 400000 in
theorem sum_any (s : ByteArray) (hs : s.size ≤ 1000000000000) (w : World) :
    Calls Tryz.prog 117 #[.string s] w fun e w' => e = .returned (.int .i64 (sumTo s s.size)) ∧ ∃ q, w' = w.drewN q := by
  go_enter Tryz.func117, Tryz.ntmps117
  go_wp2
  go_loopw [3, 8] (fun v i wr => ∃ k q : Nat, k ≤ s.size ∧ i = .int .i64 k ∧ v = .int .i64 (sumTo s k) ∧ wr = w.drewN q) (fun _ i _ => s.size - (intOf i).toNat)
  case atStart => exact ⟨0, 0, by omega, rfl, rfl, rfl⟩
  case round =>
    obtain ⟨k, q, hk, rfl, rfl, rfl⟩ := hrel
    have hlt := sumTo_lt s k
    by_cases hx : k < s.size
    · have e : s.data.getD k 0 = s[k] := (Array.getElem_eq_getD (h := hx) 0).symm
      have ST : Hid (sumTo s (k + 1) = (sumTo s k + (k + 1) * s[k].toNat) % 1000003) := by unfold Hid; rw [sumTo, e]
      have hb : s[k].toNat < 256 := s[k].toNat_lt
      clear e
      generalize hS : sumTo s k = S at *
      generalize hB : s[k].toNat = B at *
      have hP : (k + 1) % 1000003 < 1000003 := Nat.mod_lt _ (by omega)
      have eP : ((k : Int) + 1).tmod 1000003 = (((k + 1) % 1000003 : Nat) : Int) := by
        rw [Int.tmod_eq_emod_of_nonneg (by omega)]
        simp
      have HM : Hid ((S + (k + 1) % 1000003 * B) % 1000003 = (S + (k + 1) * B) % 1000003) := by
        unfold Hid
        rw [Nat.add_mod, Nat.mod_mul_mod, ← Nat.add_mod]
      generalize (k + 1) % 1000003 = P at *
      have hm : P * B ≤ 1000003 * 255 := Nat.mul_le_mul (by omega) (by omega)
      have m1 : (0 : Int) ≤ (P : Int) * (B : Int) := Int.mul_nonneg (by omega) (by omega)
      have m2 : (P : Int) * (B : Int) ≤ 255000765 := by
        have : ((P * B : Nat) : Int) ≤ ((1000003 * 255 : Nat) : Int) := Int.ofNat_le.2 hm
        rw [Int.natCast_mul] at this
        simpa using this
      have val : (wrap64 ((S : Int) + wrap64 ((P : Int) * wrap64 (B : Int)))).tmod 1000003 = (((S + P * B) % 1000003 : Nat) : Int) := by
        rw [wrap64_in' (B : Int) (by omega), wrap64_in' ((P : Int) * (B : Int)) (by omega), wrap64_in' _ (by omega), Int.tmod_eq_emod_of_nonneg (by omega)]
        simp
      have HB := hide hB
      have HS := hide hS
      clear hB hS
      go_wp2
      go_roundw
      case rel => exact ⟨k + 1, _, by omega, by go_num, by rw [HB.out, ST.out, ← HM.out, ← val], rfl⟩
      case measure => simp [intOf]; omega
    · have e : k = s.size := by omega
      subst e
      go_wp2
      go_ret
      exact ⟨rfl, _, rfl⟩

theorem sumLine_any (s : ByteArray) (hs : s.size ≤ 1000000000000) (w : World) (hg : Glob w) :
    Calls Tryz.prog 68 #[.string s] w fun e w' => e = .returned (.string (ofBs (lastT (bs s)))) ∧ Below w.heap.size w w' := by
  have hlt := sumTo_lt s s.size
  have SU := hide (sum_any s hs w)
  have IT : Hid (∀ q, Calls Tryz.prog 72 #[.int .i64 (sumTo s s.size)] (w.drewN q) fun e w' => e = .returned (.string (ofBs (decDigits (sumTo s s.size)))) ∧ Below w.heap.size w w') := fun q => by
    have hb : Below w.heap.size w (w.drewN q) := ⟨rfl, rfl, rfl, Nat.le_refl _, fun _ _ => rfl⟩
    refine (Tryz.strconv_Itoa _ (by omega) (by omega) (w.drewN q) (hg.below hb).tab).mono ?_
    rintro e w' ⟨rfl, k, os, rfl⟩
    refine ⟨?_, below_step hb (grow_below _ k os)⟩
    unfold Lib.itoa
    rw [if_neg (by omega), Int.toNat_natCast]
    rfl
  have HL : Hid (ofBs (lastT (bs s)) = (⟨#[115, 117, 109, 32]⟩ : ByteArray) ++ ofBs (decDigits (sumTo s s.size)) ++ ⟨#[10]⟩) := by
    unfold Hid lastT
    apply bs_inj
    rw [bs_ofBs, bs_append, bs_append, bs_ofBs, sumL_bs, List.append_assoc]
    rfl
  have hsz : (ofBs (decDigits (sumTo s s.size))).size ≤ 1000 := by
    rw [← bs_len, bs_ofBs]
    have := dig_len 6 (sumTo s s.size) (Nat.lt_of_lt_of_le hlt (by decide))
    omega
  generalize ofBs (decDigits (sumTo s s.size)) = dd at *
  generalize sumTo s s.size = S at *
  clear hg
  go_enter Tryz.func68, Tryz.ntmps68
  go_wp2_with (first
    | (go_at_call 117; refine (SU.out).mono ?_; rintro e w1 ⟨rfl, q, rfl⟩)
    | (go_at_call 72; refine (IT.out q).mono ?_; rintro e w2 ⟨rfl, hb⟩))
  go_ret
  exact ⟨by rw [HL.out]; rfl, hb⟩

end Go.Proofs.YtaelaldmibgibaaGreatDoor

namespace Go.Proofs.YtaelaldmibgibaaGreatDoor
open Go.RowKit Go.Lib

theorem at_bs (s : ByteArray) (j : Nat) (hj : j < s.size) : (bs s)[j]? = some (s.data[j]!) := by
  unfold bs
  have h : j < s.data.size := hj
  rw [Array.getElem?_toList, Array.getElem?_eq_getElem h, getElem!_pos s.data j h]
theorem last_spec (u : ByteArray) : (lastIndexByte u 10 = -1 ∧ (10 : UInt8) ∉ bs u) ∨ ∃ a b, bs u = a ++ 10 :: b ∧ (10 : UInt8) ∉ b ∧ lastIndexByte u 10 = (a.length : Int) := by
  have ne : ∀ j, j < u.size → ((u.data[j]!).toNat : Int) ≠ 10 → (bs u)[j]? ≠ some 10 := fun j hj h q => by
    rw [at_bs u j hj] at q
    apply h
    rw [Option.some.inj q]
    rfl
  rcases lastIndexByte_spec u 10 with ⟨h1, h2⟩ | ⟨i, hi, h1, h2, h3⟩
  · refine .inl ⟨h1, fun q => ?_⟩
    obtain ⟨j, hj⟩ := List.getElem?_of_mem q
    have hjl := (List.getElem?_eq_some_iff.1 hj).1
    rw [bs_len] at hjl
    exact ne j hjl (h2 j hjl) hj
  · have hil : i < (bs u).length := by rw [bs_len]; exact hi
    have e10 : (bs u)[i] = 10 := by
      have := at_bs u i hi
      rw [List.getElem?_eq_getElem hil] at this
      have h4 := Option.some.inj this
      rw [h4]
      exact UInt8.toNat_inj.1 (Int.ofNat.inj h2)
    refine .inr ⟨(bs u).take i, (bs u).drop (i + 1), ?_, fun q => ?_, ?_⟩
    · conv => lhs; rw [← List.take_append_drop i (bs u), List.drop_eq_getElem_cons hil, e10]
    · obtain ⟨j, hj⟩ := List.getElem?_of_mem q
      rw [List.getElem?_drop] at hj
      have hjl := (List.getElem?_eq_some_iff.1 hj).1
      rw [bs_len] at hjl
      exact ne _ hjl (h3 _ (by omega) hjl) hj
    · rw [h1, List.length_take, Nat.min_eq_left (by omega)]

def trimT (t : ByteArray) : ByteArray := ofBs (trimSuffix (bs t) [10])
def endOf (t : ByteArray) : Nat := (lastIndexByte (trimT t) 10 + 1).toNat
theorem trimT_take (t : ByteArray) : ∃ k, k ≤ t.size ∧ bs (trimT t) = (bs t).take k := by
  unfold trimT
  rw [bs_ofBs]
  unfold trimSuffix
  split
  · exact ⟨(bs t).length - [(10 : UInt8)].length, by rw [bs_len]; omega, rfl⟩
  · exact ⟨t.size, Nat.le_refl _, by rw [← bs_len, List.take_length]⟩
theorem endOf_spec (t : ByteArray) : (endOf t : Int) = lastIndexByte (trimT t) 10 + 1 ∧ endOf t ≤ t.size ∧ ((bs t).take (endOf t) = [] ∨ ∃ a, (bs t).take (endOf t) = a ++ [10]) := by
  obtain ⟨k, hk, ek⟩ := trimT_take t
  unfold endOf
  rcases last_spec (trimT t) with ⟨h1, _⟩ | ⟨a, b, h1, _, h3⟩
  · rw [h1]
    exact ⟨rfl, Nat.zero_le _, .inl rfl⟩
  · rw [h3]
    have e : ((a.length : Int) + 1).toNat = a.length + 1 := by omega
    rw [e]
    have hl : a.length + 1 ≤ k := by
      have := congrArg List.length (ek.symm.trans h1)
      simp [bs_len] at this
      omega
    refine ⟨by omega, by omega, .inr ⟨a, ?_⟩⟩
    have : (bs t).take (a.length + 1) = (bs (trimT t)).take (a.length + 1) := by rw [ek, List.take_take, Nat.min_eq_left hl]
    rw [this, h1, show a ++ (10 : UInt8) :: b = (a ++ [10]) ++ b by simp]
    exact List.take_left' (by simp)
theorem lastT_form (b : Bs) : ∃ m, lastT b = m ++ [10] ∧ (10 : UInt8) ∉ m := by
  refine ⟨bs sumW ++ decDigits (sumL b), by unfold lastT; rw [List.append_assoc], fun q => ?_⟩
  rcases List.mem_append.1 q with q | q
  · revert q; decide
  · exact dig_no _ 10 (by decide) q
theorem trim_nl (x : Bs) : trimSuffix (x ++ [10]) [10] = x := by
  unfold trimSuffix hasSuffix
  rw [if_pos (by rw [List.isSuffixOf_iff_suffix]; exact List.suffix_append _ _)]
  simp
theorem app_last_inj (a b a' b' : Bs) (h : a ++ (10 : UInt8) :: b = a' ++ 10 :: b') (hb : (10 : UInt8) ∉ b) (hb' : (10 : UInt8) ∉ b') : a = a' := by
  have h2 := congrArg List.reverse h
  simp only [List.reverse_append, List.reverse_cons, List.append_assoc, List.singleton_append] at h2
  have k1 := idx_hit 10 b.reverse a.reverse (by simpa using hb)
  have k2 := idx_hit 10 b'.reverse a'.reverse (by simpa using hb')
  rw [h2, k2] at k1
  have hl : b.length = b'.length := by simp at k1; omega
  have h3 := congrArg List.length h
  simp at h3
  exact List.append_inj_left h (by omega)
theorem endOf_sealed (t : ByteArray) (b : Bs) (h : bs t = b ++ lastT b) (hb : b = [] ∨ ∃ a, b = a ++ [10]) : endOf t = b.length := by
  obtain ⟨m, hm, hm10⟩ := lastT_form b
  have et : bs (trimT t) = b ++ m := by
    unfold trimT
    rw [bs_ofBs, h, hm, ← List.append_assoc, trim_nl]
  unfold endOf
  rcases hb with rfl | ⟨a, rfl⟩
  · rcases last_spec (trimT t) with ⟨h1, _⟩ | ⟨a, b, h1, _, _⟩
    · rw [h1]; rfl
    · rw [et] at h1
      exact absurd (by rw [show m = a ++ 10 :: b from h1]; simp) hm10
  · rcases last_spec (trimT t) with ⟨_, h2⟩ | ⟨a', b', h1, h2, h3⟩
    · exact absurd (by rw [et]; simp) h2
    · rw [et, List.append_assoc] at h1
      have := app_last_inj a m a' b' h1 hm10 h2
      subst this
      rw [h3]
      simp
/-- what stands ahead of the last line -/
def unsealR (t : ByteArray) : Option Bs := if (bs t).drop (endOf t) = lastT ((bs t).take (endOf t)) then some ((bs t).take (endOf t)) else none
theorem unsealR_iff (t : ByteArray) (b : Bs) : unsealR t = some b ↔ bs t = b ++ lastT b ∧ (b = [] ∨ ∃ a, b = a ++ [10]) := by
  unfold unsealR
  constructor
  · intro h
    split at h
    · rename_i hc
      cases h
      exact ⟨by rw [← hc, List.take_append_drop], (endOf_spec t).2.2⟩
    · cases h
  · rintro ⟨h1, h2⟩
    have e := endOf_sealed t b h1 h2
    have et : (bs t).take (endOf t) = b := by rw [e, h1, List.take_left']; rfl
    have ed : (bs t).drop (endOf t) = lastT b := by rw [e, h1, List.drop_left']; rfl
    rw [et, ed, if_pos rfl]

end Go.Proofs.YtaelaldmibgibaaGreatDoor

namespace Go.Proofs.YtaelaldmibgibaaGreatDoor
open Go.RowKit Go.Lib

theorem bs_take (s : ByteArray) (k : Nat) : bs (s.extract 0 k) = (bs s).take k := Lib.extract_from_zero s k
theorem bs_drop (s : ByteArray) (k : Nat) : bs (s.extract k s.size) = (bs s).drop k := by
  have := Lib.extract_to_end s k
  exact this
set_option maxHeartbeats 400000 in
theorem Unseal_any (t : ByteArray) (ht : t.size ≤ 10000000) (w : World) (hg : Glob w) :
    Calls Tryz.prog 78 #[.string t] w fun e w' => e = .returned (.tuple #[.string (ofBs ((unsealR t).getD [])), .bool (unsealR t).isSome]) ∧ Below w.heap.size w w' := by
  obtain ⟨h1, h2, _⟩ := endOf_spec t
  have TR : Hid (Calls Tryz.prog 141 #[.string t, .string ⟨#[10]⟩] w fun e w' => e = .returned (.string (trimT t)) ∧ w' = w) := Tryz.strings_TrimSuffix t ⟨#[10]⟩ w (by omega)
  have hts : (trimT t).size ≤ t.size := by
    obtain ⟨k, hk, ek⟩ := trimT_take t
    rw [← bs_len, ek, List.length_take, bs_len]
    omega
  have LI : Hid (Calls Tryz.prog 140 #[.string (trimT t), .int .u8 10] w fun e w' => e = .returned (.int .i64 ((endOf t : Int) - 1)) ∧ w' = w) := by
    refine (Tryz.strings_LastIndexByte (trimT t) 10 (by omega) w).mono ?_
    rintro e w' ⟨rfl, rfl⟩
    exact ⟨by rw [show (endOf t : Int) - 1 = lastIndexByte (trimT t) 10 by omega], rfl⟩
  have SL : Hid (∀ W, Below w.heap.size w W → Calls Tryz.prog 68 #[.string (t.extract 0 (endOf t))] W fun e w' => e = .returned (.string (ofBs (lastT ((bs t).take (endOf t))))) ∧ Below w.heap.size w w') := fun W hb => by
    refine (sumLine_any _ (by rw [ByteArray.size_extract]; omega) W (hg.below hb)).mono ?_
    rintro e w' ⟨rfl, hb'⟩
    rw [bs_take]
    exact ⟨rfl, below_step hb hb'⟩
  have HU : Hid (unsealR t = if (t.extract (endOf t) t.size).toList == (ofBs (lastT ((bs t).take (endOf t)))).toList then some ((bs t).take (endOf t)) else none) := by
    unfold Hid unsealR
    by_cases h : (bs t).drop (endOf t) = lastT ((bs t).take (endOf t))
    · rw [if_pos h, if_pos]
      have e : t.extract (endOf t) t.size = ofBs (lastT ((bs t).take (endOf t))) := bs_inj (by rw [bs_drop, bs_ofBs]; exact h)
      exact (seq_iff _ _).2 e
    · rw [if_neg h, if_neg]
      intro q
      have e := (seq_iff _ _).1 q
      exact h (by rw [← bs_drop, e, bs_ofBs])
  have HT : Hid (ofBs ((bs t).take (endOf t)) = t.extract 0 (endOf t)) := bs_inj (by rw [bs_ofBs, bs_take])
  have B0 := hide (Below.refl w.heap.size w)
  clear h1 hts hg
  generalize endOf t = E at *
  generalize ofBs (lastT ((bs t).take E)) = LT at *
  generalize trimT t = tt at *
  generalize unsealR t = R at *
  cases hc : ((t.extract E t.size).toList == LT.toList) with
  | true =>
    have e : R = some ((bs t).take E) := by rw [HU.out, hc]; rfl
    subst e
    go_enter Tryz.func78, Tryz.ntmps78
    go_wp2_with (first
      | (go_at_call 141; refine (TR.out).mono ?_; rintro e w1 ⟨rfl, rfl⟩)
      | (go_at_call 140; refine (LI.out).mono ?_; rintro e w1 ⟨rfl, rfl⟩))
    go_region_law (first
      | (go_simp; go_at_call 68; refine (SL.out _ (by first | exact B0.out | exact B0.out.drew | exact B0.out.drewN _)).mono ?_; rintro e w5 ⟨rfl, hb5⟩; have B5 := hide hb5; clear hb5; dsimp only))
    all_goals
      go_wp2
      go_ret2
      exact ⟨by rw [Option.getD_some, HT.out]; rfl, B5.out⟩
  | false =>
    have e : R = none := by rw [HU.out, hc]; rfl
    subst e
    go_enter Tryz.func78, Tryz.ntmps78
    go_wp2_with (first
      | (go_at_call 141; refine (TR.out).mono ?_; rintro e w1 ⟨rfl, rfl⟩)
      | (go_at_call 140; refine (LI.out).mono ?_; rintro e w1 ⟨rfl, rfl⟩))
    go_region_law (first
      | (go_simp; go_at_call 68; refine (SL.out _ (by first | exact B0.out | exact B0.out.drew | exact B0.out.drewN _)).mono ?_; rintro e w5 ⟨rfl, hb5⟩; have B5 := hide hb5; clear hb5; dsimp only))
    all_goals
      go_wp2
      go_ret2
      exact ⟨rfl, B5.out⟩

end Go.Proofs.YtaelaldmibgibaaGreatDoor
