/- The program's reader of numbers. -/
import Derived.Test.YtaelaldmibgibaaGreatDoorX01
import Derived.Test.YtaelaldmibgibaaGreatDoorX07
import Derived.Test.YtaelaldmibgibaaGreatDoorX09
import Derived.Test.YtaelaldmibgibaaGreatDoorX11

set_option linter.all false
set_option maxHeartbeats 400000

namespace Go.Proofs.K
open Go.RowKit Go.Lib Go.Sort
structure yez (w : World) : Prop where
 max : ∃ m, w.cell? ⟨0, 0, none⟩ = some (.int .i64 m)
 syn : ∃ te pe, w.cell? ⟨2, 0, none⟩ = some (.iface te pe)
 rng : ∃ te pe, w.cell? ⟨3, 0, none⟩ = some (.iface te pe)
 tab : Lib.TabIs Tryz.prog w "internal/strconv.uint64pow10" .u64 Lib.pow10Tab
 sz : 8 ≤ w.heap.size
theorem yod : Tryz.prog.globalNamed "internal/strconv.uint64pow10" = some 1 := by kernel_rfl
theorem yez.below {w w' : World} (h : yez w) (hb : Below w.heap.size w w') : yez w' where
 max := by obtain ⟨m, q⟩ := h.max; exact ⟨m, (hb.cell (p := ⟨0, 0, none⟩) (by have := h.sz; simp only; omega)).trans q⟩
 syn := by obtain ⟨a, b, q⟩ := h.syn; exact ⟨a, b, (hb.cell (p := ⟨2, 0, none⟩) (by have := h.sz; simp only; omega)).trans q⟩
 rng := by obtain ⟨a, b, q⟩ := h.rng; exact ⟨a, b, (hb.cell (p := ⟨3, 0, none⟩) (by have := h.sz; simp only; omega)).trans q⟩
 tab := by
  have h1 := h.tab
  unfold Lib.TabIs World.var? at *
  rw [yod] at *
  simp only [Option.bind_eq_bind, Option.bind_some] at *
  rw [hb.block 1 (by have := h.sz; omega)]
  exact h1
 sz := Nat.le_trans h.sz hb.size
theorem ymu (w : World) (k : Nat) (os : Array Obj) : Below w.heap.size w (grow (w.drewN k) os) := by
 have h : (w.drewN k).heap = w.heap := rfl
 refine ⟨rfl, rfl, rfl, ?_, fun j hj => ?_⟩
 ·simp [grow, h]
 ·simp only [grow, h]
  rw [Array.getElem?_append_left hj]
def ygu (t : Bs) : Option Nat := match atoiAll t with
 |.ok v => if 0 ≤ v ∧ v ≤ 1000000000 ∧ decDigits v.toNat = t then some v.toNat else none
 |_ => none
theorem ylt (n : Nat) (h : n ≤ 1000000000) : ygu (decDigits n) = some n := by
 unfold ygu
 rw [atoi_dig n h]
 simp only
 rw [if_pos ⟨by omega, by omega, by rw [Int.toNat_natCast]⟩, Int.toNat_natCast]
theorem yjy (t : Bs) (n : Nat) : ygu t = some n ↔ n ≤ 1000000000 ∧ t = decDigits n := by
 constructor
 ·intro h
  unfold ygu at h
  split at h
  ·split at h
   ·rename_i v _ hc
    simp at h
    subst h
    exact ⟨by omega, hc.2.2.symm⟩
   ·cases h
  ·cases h
 ·rintro ⟨h1, rfl⟩
  exact ylt n h1
theorem yei (t : ByteArray) (ht : t.size ≤ 1000000000000) (w : World) (hg : yez w) :
  Calls Tryz.prog 144 #[.string t] w fun e w' => e = .returned (.tuple #[.int .i64 ((ygu (bs t)).getD 0 : Nat), .bool (ygu (bs t)).isSome]) ∧ Below w.heap.size w w' := by
 have HG := yab hg
 cases hA : atoiAll (bs t) with
 |range =>
  have e : ygu (bs t) = none := by unfold ygu; rw [hA]
  rw [e]
  obtain ⟨te, pe, hv⟩ := hg.rng
  have AT := yab (Tryz.strconv_Atoi_range t (by omega) hA _ w hv (.inr ⟨te, pe, rfl⟩))
  clear hg hv
  go_enter Tryz.func144, Tryz.ntmps144
  go_wp2_with (go_at_call 194; refine (AT.out).mono ?_; rintro e w' ⟨N, rfl, _, _, hb⟩)
  go_ret2
  exact ⟨rfl, hb⟩
 |ok v =>
  have AT : Hid (Calls Tryz.prog 194 #[.string t] w fun e w' => e = .returned (.tuple #[.int .i64 v, .nilIface]) ∧ Below w.heap.size w w') := (Tryz.strconv_Atoi_ok t (by omega) v hA w).mono fun e w' h => ⟨h.1, by
   rcases h.2 with rfl | ⟨t', rfl⟩
   ·exact Below.refl _ _
   ·exact Lib.bytesWorld_below _ _ _⟩
  obtain ⟨dd, hdd⟩ : ∃ dd : ByteArray, dd = ⟨(decDigits v.toNat).toArray⟩ := ⟨_, rfl⟩
  have IT : Hid (∀ W, Below w.heap.size w W → 0 ≤ v → v ≤ 1000000000 → Calls Tryz.prog 72 #[.int .i64 v] W fun e w' => e = .returned (.string dd) ∧ Below w.heap.size w w') := fun W hb h0 h1 => by
   refine (Tryz.strconv_Itoa v (by omega) (by omega) W (hg.below hb).tab).mono ?_
   rintro e w' ⟨rfl, k, os, rfl⟩
   refine ⟨?_, yec hb (ymu W k os)⟩
   rw [hdd]
   unfold Lib.itoa
   rw [if_neg (by omega)]
  have HD := yab hdd
  clear hg hdd
  by_cases h0 : 0 ≤ v
  ·by_cases h1 : v ≤ 1000000000
   ·have d0 : decide (v < 0) = false := by simp; omega
    have d1 : decide (1000000000 < v) = false := by simp; omega
    cases hc : (dd.toList == t.toList) with
    |true =>
     have e : ygu (bs t) = some v.toNat := by
      unfold ygu
      rw [hA]
      simp only
      rw [if_pos ⟨h0, h1, by rw [← (ydm _ _).1 hc, HD.out]; simp [bs]⟩]
     rw [e]
     go_enter Tryz.func144, Tryz.ntmps144
     go_wp2_with (first
      |(go_at_call 194; refine (AT.out).mono ?_; rintro e w' ⟨rfl, hb⟩; have HB := yab hb; clear hb)
      |(go_at_call 72; refine (IT.out _ HB.out h0 h1).mono ?_; rintro e w'' ⟨rfl, hb'⟩; have HB' := yab hb'; clear hb'))
     go_ret2
     refine ⟨?_, HB'.out⟩
     rw [Option.getD_some, Int.toNat_of_nonneg h0]
     rfl
    |false =>
     have e : ygu (bs t) = none := by
      unfold ygu
      rw [hA]
      simp only
      rw [if_neg]
      rintro ⟨_, _, q⟩
      have : dd = t := by rw [HD.out, q]; rfl
      have q2 := (ydm _ _).2 this
      unfold seq at q2
      rw [q2] at hc
      cases hc
     rw [e]
     go_enter Tryz.func144, Tryz.ntmps144
     go_wp2_with (first
      |(go_at_call 194; refine (AT.out).mono ?_; rintro e w' ⟨rfl, hb⟩; have HB := yab hb; clear hb)
      |(go_at_call 72; refine (IT.out _ HB.out h0 h1).mono ?_; rintro e w'' ⟨rfl, hb'⟩; have HB' := yab hb'; clear hb'))
     go_ret2
     exact ⟨rfl, HB'.out⟩
   ·have e : ygu (bs t) = none := by unfold ygu; rw [hA]; simp only; rw [if_neg (by omega)]
    rw [e]
    have d0 : decide (v < 0) = false := by simp; omega
    have d1 : decide (1000000000 < v) = true := by simp; omega
    go_enter Tryz.func144, Tryz.ntmps144
    go_wp2_with (go_at_call 194; refine (AT.out).mono ?_; rintro e w' ⟨rfl, hb⟩)
    go_ret2
    exact ⟨rfl, hb⟩
  ·have e : ygu (bs t) = none := by unfold ygu; rw [hA]; simp only; rw [if_neg (by omega)]
   rw [e]
   have d0 : decide (v < 0) = true := by simp; omega
   go_enter Tryz.func144, Tryz.ntmps144
   go_wp2_with (go_at_call 194; refine (AT.out).mono ?_; rintro e w' ⟨rfl, hb⟩)
   go_ret2
   exact ⟨rfl, hb⟩
 |_ =>
  have e : ygu (bs t) = none := by unfold ygu; rw [hA]
  rw [e]
  obtain ⟨te, pe, hv⟩ := hg.syn
  have AT := yab (Tryz.strconv_Atoi_syntax t (by omega) hA _ w hv (.inr ⟨te, pe, rfl⟩))
  clear hg hv
  go_enter Tryz.func144, Tryz.ntmps144
  go_wp2_with (go_at_call 194; refine (AT.out).mono ?_; rintro e w' ⟨N, rfl, _, _, hb⟩)
  go_ret2
  exact ⟨rfl, hb⟩
open Go.Lib
theorem yje (c : UInt8) : ∀ s : Bs, (index s [c] = -1 ∧ c ∉ s) ∨ ∃ a b, s = a ++ c :: b ∧ c ∉ a ∧ index s [c] = (a.length : Int)
 |[] => .inl ⟨rfl, by simp⟩
 |x :: l => by
  unfold index
  by_cases e : c = x
  ·subst e
   refine .inr ⟨[], l, rfl, by simp, ?_⟩
   rw [if_pos (by simp [List.isPrefixOf])]
   rfl
  ·rw [if_neg (by simp [List.isPrefixOf, e])]
   rcases yje c l with ⟨h1, h2⟩ | ⟨a, b, h1, h2, h3⟩
   ·rw [h1]
    exact .inl ⟨by simp, by simp [e, h2]⟩
   ·refine .inr ⟨x :: a, b, by rw [h1]; rfl, by simp [e, h2], ?_⟩
    rw [h3, if_neg (by simp)]
    simp
theorem yud (c : UInt8) (a b : Bs) (h : c ∉ a) : index (a ++ c :: b) [c] = (a.length : Int) := by
 rcases yje c (a ++ c :: b) with ⟨_, q⟩ | ⟨a', b', h1, h2, h3⟩
 ·simp at q
 ·rw [h3]
  have : a = a' := by
   clear h3
   induction a generalizing a' with
   |nil =>
    cases a' with
    |nil => rfl
    |cons y a' => simp at h1; exact absurd h1.1 (by simp at h2; exact h2.1)
   |cons x a ih =>
    cases a' with
    |nil => simp at h1; exact absurd h1.1.symm (by simp at h; exact h.1)
    |cons y a' =>
     simp at h1 h h2
     obtain ⟨rfl, h1⟩ := h1
     rw [ih h.2 a' h1 h2.2]
  rw [this]
theorem idx_miss (c : UInt8) (s : Bs) (h : c ∉ s) : index s [c] = -1 := by
 rcases yje c s with ⟨q, _⟩ | ⟨a, b, h1, _, _⟩
 ·exact q
 ·exact absurd (by rw [h1]; simp) h
theorem ymz (c : UInt8) (k : Nat) (a b : Bs) (h : c ∉ a) : splitK [c] 0 (k + 1) (a ++ c :: b) = a :: splitK [c] 0 k b := by
 rw [splitK, yud c a b h, if_neg (by simp)]
 simp
theorem yky (c : UInt8) (k : Nat) (s : Bs) (h : c ∉ s) : splitK [c] 0 k s = [s] := by
 cases k with
 |zero => rfl
 |succ k => rw [splitK, idx_miss c s h, if_pos (by simp)]
theorem splitK_ne (c : UInt8) (k : Nat) (s : Bs) : splitK [c] 0 k s ≠ [] := by
 cases k with
 |zero => simp [splitK]
 |succ k => rw [splitK]; split <;> simp
theorem sepBy_cons (c : UInt8) (x : Bs) (l : List Bs) (h : l ≠ []) : ybu c (x :: l) = x ++ c :: ybu c l := by
 cases l with
 |nil => exact absurd rfl h
 |cons y l => exact ydl c x y l
theorem yqg (c : UInt8) (x : Bs) : ybu c [x] = x := by simp [ybu]
theorem yic (c : UInt8) : ∀ (k : Nat) (s : Bs), ybu c (splitK [c] 0 k s) = s
 |0, s => yqg c s
 |k + 1, s => by
  rcases yje c s with ⟨_, q⟩ | ⟨a, b, h1, h2, _⟩
  ·rw [yky c _ s q, yqg]
  ·rw [h1, ymz c k a b h2, sepBy_cons c a _ (splitK_ne c k b), yic c k b]
theorem yps (c : UInt8) : ∀ (ps : List Bs) (k : Nat), ps ≠ [] → (∀ p ∈ ps, c ∉ p) → ps.length ≤ k + 1 → splitK [c] 0 k (ybu c ps) = ps
 |[], _, h, _, _ => absurd rfl h
 |[x], k, _, h, _ => by rw [yqg]; exact yky c k x (h x (by simp))
 |x :: y :: l, k, _, h, hk => by
  cases k with
  |zero => simp at hk
  |succ k =>
   rw [ydl, ymz c k x _ (h x (by simp)), yps c (y :: l) k (by simp) (fun p hp => h p (List.mem_cons_of_mem _ hp)) (by simp at hk ⊢; omega)]
theorem yqf (c : UInt8) : ∀ ps : List Bs, ps.length ≤ (ybu c ps).length + 1
 |[] => by simp
 |[x] => by simp
 |x :: y :: l => by
  have := yqf c (y :: l)
  rw [ydl]
  simp at this ⊢
  omega
theorem yoz (c : UInt8) (a b : Bs) (h : c ∉ a) : Lib.cut (a ++ c :: b) [c] = (a, b, true) := by
 unfold Lib.cut
 rw [yud c a b h, if_pos (by omega)]
 simp
theorem yts (c : UInt8) (s : Bs) (h : c ∉ s) : Lib.cut s [c] = (s, [], false) := by
 unfold Lib.cut
 rw [idx_miss c s h, if_neg (by omega)]
theorem ynm (v : Nat) (c : UInt8) (h : isD c = false) : c ∉ decDigits v := fun q => by
 rw [ymp v c q] at h
 cases h
def yff : List Bs → Option (List Nat)
 |[] => some []
 |p :: l => (ygu p).bind fun v => (yff l).map (v :: ·)
theorem yjl : ∀ (ps : List Bs) (l : List Nat), yff ps = some l ↔ (∀ v ∈ l, v ≤ 1000000000) ∧ ps = l.map decDigits
 |[], l => by
  unfold yff
  constructor
  ·intro h
   simp at h
   subst h
   simp
  ·rintro ⟨_, h⟩
   have : l = [] := by simpa using h.symm
   rw [this]
 |p :: ps, l => by
  unfold yff
  constructor
  ·intro h
   simp only [Option.bind_eq_some_iff, Option.map_eq_some_iff] at h
   obtain ⟨v, h1, l', h2, rfl⟩ := h
   obtain ⟨a, rfl⟩ := (yjy _ _).1 h1
   obtain ⟨b, rfl⟩ := (yjl ps l').1 h2
   refine ⟨fun x hx => ?_, rfl⟩
   rcases List.mem_cons.1 hx with rfl | hx
   ·exact a
   ·exact b x hx
  ·rintro ⟨h1, h2⟩
   cases l with
   |nil => simp at h2
   |cons v l =>
    simp only [List.map_cons, List.cons.injEq] at h2
    simp only [Option.bind_eq_some_iff, Option.map_eq_some_iff]
    exact ⟨v, (yjy _ _).2 ⟨h1 v (by simp), h2.1⟩, l, (yjl ps l).2 ⟨fun x hx => h1 x (List.mem_cons_of_mem _ hx), h2.2⟩, rfl⟩
def yby (n : Nat) (t : Bs) : Option (List Nat) := if (splitN t [44] (n + 1)).length = n then yff (splitN t [44] (n + 1)) else none
theorem yhm (n : Nat) (hn : 1 ≤ n) (t : Bs) (l : List Nat) : yby n t = some l ↔ l.length = n ∧ (∀ v ∈ l, v ≤ 1000000000) ∧ t = yba l := by
 unfold yby
 constructor
 ·intro h
  split at h
  ·rename_i hl
   obtain ⟨h1, h2⟩ := (yjl _ _).1 h
   refine ⟨?_, h1, ?_⟩
   ·rw [h2, List.length_map] at hl
    exact hl
   ·unfold yba
    rw [← h2]
    exact (yic 44 _ t).symm
  ·cases h
 ·rintro ⟨h1, h2, rfl⟩
  have hne : l ≠ [] := fun e => by rw [e] at h1; simp at h1; omega
  have e : splitN (yba l) [44] (n + 1) = l.map decDigits := by
   unfold splitN yba
   have hlen := yqf 44 (l.map decDigits)
   rw [List.length_map] at hlen
   exact yps 44 (l.map decDigits) _ (by simpa using hne) (fun p hp => by
    obtain ⟨v, _, rfl⟩ := List.mem_map.1 hp
    exact ynm v 44 (by decide)) (by rw [List.length_map]; omega)
  rw [e, List.length_map, if_pos h1]
  exact (yjl _ _).2 ⟨h2, rfl⟩
open Go.RowKit Go.Lib
variable {w wr : World} {B i tb : Nat} {ps : List Bs} {f : Nat → Int} {p : Bs} {vs : List Nat}
theorem split_any (c : UInt8) (s : ByteArray) (m : Nat) (hm : 1 ≤ m) (hm6 : m ≤ 1000) (hs : s.size ≤ 10000000) (w : World) (hg : yez w) :
  Calls Tryz.prog 195 #[.string s, .string ⟨#[c]⟩, .int .i64 m] w fun e w' => ∃ C, e = .returned (.slice (some ⟨w.heap.size, 0, none⟩) (splitN (bs s) [c] m).length C) ∧ (∀ (j : Nat) p, (splitN (bs s) [c] m)[j]? = some p → w'.cell? ⟨w.heap.size, j, none⟩ = some (.string (yaf p))) ∧ w.heap.size < w'.heap.size ∧ Below w.heap.size w w' := by
 obtain ⟨mx, hmx⟩ := hg.max
 refine (Tryz.strings_SplitN s ⟨#[c]⟩ m mx w (by omega) hmx (Nat.le_refl 1) hm (by omega)).mono ?_
 rintro e w' ⟨rfl, rfl⟩
 have hd := splitB_data (⟨#[c]⟩ : ByteArray) 0 (min m (s.size + 1) - 1) s
 have hd' : (splitB ⟨#[c]⟩ 0 (min m (s.size + 1) - 1) s).map (·.data.toList) = splitN (bs s) [c] m := by
  rw [hd]
  unfold splitN
  rw [yax]
  rfl
 have hle := splitB_length_le (⟨#[c]⟩ : ByteArray) 0 (min m (s.size + 1) - 1) s
 generalize splitB ⟨#[c]⟩ 0 (min m (s.size + 1) - 1) s = ps at *
 refine ⟨min m (s.size + 1), ?_, fun j p hp => ?_, by simp, (Below.refl _ _).alloc (Nat.le_refl _) _⟩
 ·rw [← hd', List.length_map]
 ·rw [← hd', List.getElem?_map] at hp
  obtain ⟨q, hq, rfl⟩ := Option.map_eq_some_iff.1 hp
  have hj := (List.getElem?_eq_some_iff.1 hq).1
  simp only [World.cell?, heap_alloc_new, cellsOf]
  rw [List.getElem?_toArray, List.getElem?_append_left (by simpa using hj), List.getElem?_map, hq]
  rfl
structure RT (w wr : World) (B : Nat) (ps : List Bs) (tb : Nat) (f : Nat → Int) : Prop where
 bel : Below w.heap.size w wr
 res : ∀ j, j < 6 → (wr.cell? ⟨w.heap.size, j, none⟩).isSome = true
 rfz : ∀ j, wr.frozen? ⟨w.heap.size, j, none⟩ = false
 pc : ∀ (j : Nat) p, ps[j]? = some p → wr.cell? ⟨B, j, none⟩ = some (.string (yaf p))
 tc : ∀ j, j < 6 → wr.cell? ⟨tb, j, none⟩ = some (.int .i64 (f j))
 tfz : ∀ j, wr.frozen? ⟨tb, j, none⟩ = false
 o1 : w.heap.size < B
 o2 : B < tb
 o3 : tb < wr.heap.size
theorem RT.below {w' : World} (h : RT w wr B ps tb f) (hb : Below wr.heap.size wr w') : RT w w' B ps tb f := by
 have h1 := h.o1
 have h2 := h.o2
 have h3 := h.o3
 have K : ∀ k j, k < wr.heap.size → w'.cell? ⟨k, j, none⟩ = wr.cell? ⟨k, j, none⟩ := fun k j hk => hb.cell (p := ⟨k, j, none⟩) hk
 have F : ∀ k j, k < wr.heap.size → w'.frozen? ⟨k, j, none⟩ = wr.frozen? ⟨k, j, none⟩ := fun k j hk => World.frozen?_of_block (w := wr) (a := ⟨k, j, none⟩) (hb.block k hk)
 exact ⟨yec h.bel hb, fun j hj => by rw [K _ _ (by omega)]; exact h.res j hj, fun j => by rw [F _ _ (by omega)]; exact h.rfz j, fun j p hp => by rw [K _ _ (by omega)]; exact h.pc j p hp, fun j hj => by rw [K _ _ h3]; exact h.tc j hj, fun j => by rw [F _ _ h3]; exact h.tfz j, h1, h2, by have := hb.size; omega⟩
theorem RT.put (h : RT w wr B ps tb f) (i : Nat) (x : Int) : RT w (wr.setCell ⟨tb, i, none⟩ (.int .i64 x)) B ps tb (fun j => if j = i then x else f j) := by
 have h1 := h.o1
 have h2 := h.o2
 have h3 := h.o3
 refine ⟨h.bel.setCell (by simp only; omega) _, fun j hj => yej (h.res j hj), fun j => ?_, fun j p hp => ?_, fun j hj => ?_, fun j => ?_, h1, h2, by simpa using h3⟩
 ·rw [World.frozen?_setCell]; exact h.rfz j
 ·rw [World.cell?_setCell_far _ _ _ _ (by simp only; omega)]; exact h.pc j p hp
 ·by_cases e : j = i
  ·subst e
   rw [if_pos rfl]
   exact World.cell?_setCell_same _ _ _ (h.tc j hj)
  ·rw [if_neg e, yex _ _ _ _ _ (Ne.symm e)]
   exact h.tc j hj
 ·rw [World.frozen?_setCell]; exact h.tfz j
theorem RT.there (h : RT w wr B ps tb f) : wr.there w.heap.size 0 6 := fun j hj => ⟨by simpa using h.res j hj, h.rfz _⟩
theorem RT.tthere (h : RT w wr B ps tb f) : wr.there tb 0 6 := fun j hj => ⟨by simpa using (by rw [h.tc j hj]; rfl : (wr.cell? ⟨tb, j, none⟩).isSome = true), h.tfz _⟩
theorem RT.rng (h : RT w wr B ps tb f) : rngv wr tb 0 6 = [.int .i64 (f 0), .int .i64 (f 1), .int .i64 (f 2), .int .i64 (f 3), .int .i64 (f 4), .int .i64 (f 5)] :=
 rngv_eq rfl (fun j v hj => by
  match j with
  |0 => simp at hj; subst hj; exact h.tc 0 (by omega)
  |1 => simp at hj; subst hj; exact h.tc 1 (by omega)
  |2 => simp at hj; subst hj; exact h.tc 2 (by omega)
  |3 => simp at hj; subst hj; exact h.tc 3 (by omega)
  |4 => simp at hj; subst hj; exact h.tc 4 (by omega)
  |5 => simp at hj; subst hj; exact h.tc 5 (by omega)
  |j + 6 => simp at hj)
theorem ypm : ∀ a b : List Bs, yff (a ++ b) = (yff a).bind fun x => (yff b).map (x ++ ·)
 |[], b => by cases h : yff b <;> simp [yff, h]
 |p :: a, b => by
  rw [List.cons_append, yff, yff, ypm a b]
  cases ygu p with
  |none => rfl
  |some v =>
   cases yff a with
   |none => rfl
   |some x => cases yff b <;> simp
theorem numsR_step {v : Nat} (h : yff (ps.take i) = some vs) (hp : ps[i]? = some p) (hv : ygu p = some v) : yff (ps.take (i + 1)) = some (vs ++ [v]) := by
 have hi := (List.getElem?_eq_some_iff.1 hp).1
 have e : ps.take (i + 1) = ps.take i ++ [p] := by rw [List.take_add_one, hp]; rfl
 rw [e, ypm, h]
 simp [yff, hv]
theorem numsR_stop (hp : ps[i]? = some p) (hv : ygu p = none) : yff ps = none := by
 have hi := (List.getElem?_eq_some_iff.1 hp).1
 have e : ps = ps.take i ++ (p :: ps.drop (i + 1)) := by
  conv => lhs; rw [← List.take_append_drop i ps]
  rw [List.drop_eq_getElem_cons hi, (List.getElem?_eq_some_iff.1 hp).2]
 rw [e, ypm]
 cases yff (ps.take i) with
 |none => rfl
 |some x => simp [yff, hv]
theorem numsR_len (h : yff ps = some vs) : vs.length = ps.length := by
 obtain ⟨_, rfl⟩ := (yjl _ _).1 h
 simp
theorem ykc (c : UInt8) : ∀ (l : List Bs) (p : Bs), p ∈ l → p.length ≤ (ybu c l).length
 |[x], p, hp => by simp at hp; subst hp; simp [ybu]
 |x :: y :: l, p, hp => by
  rw [ydl]
  rcases List.mem_cons.1 hp with rfl | hp
  ·simp
  ·have := ykc c (y :: l) p hp
   simp at this ⊢
   omega
def lfn (l : List Nat) : Nat → Int := fun j => (l.getD j 0 : Nat)
theorem lfn_snoc (l : List Nat) (v : Nat) : lfn (l ++ [v]) = fun j => if j = l.length then (v : Int) else lfn l j := by
 funext j
 unfold lfn
 by_cases e : j = l.length
 ·subst e
  rw [if_pos rfl]
  simp
 ·rw [if_neg e]
  rcases Nat.lt_or_ge j l.length with h | h
  ·simp [List.getElem?_append_left h]
  ·have h2 : l.length + 1 ≤ j := by omega
   simp [h, h2]
attribute [local go_sem ↓] ykp ldTime
attribute [local go_sem] ygs ysz
theorem yiv (t : ByteArray) (ht : t.size ≤ 10000000) (n : Nat) (h1 : 1 ≤ n) (h6 : n ≤ 6) (w : World) (hg : yez w) :
  Calls Tryz.prog 146 #[.string t, .int .i64 n] w fun e w' => e = .returned (.tuple #[ygt (lfn ((yby n (bs t)).getD [])), .bool (yby n (bs t)).isSome]) ∧ Below w.heap.size w w' := by
 have SP : Hid (∀ W, yez W → Calls Tryz.prog 195 #[.string t, .string ⟨#[44]⟩, .int .i64 (n + 1)] W fun e w' => ∃ C, e = .returned (.slice (some ⟨W.heap.size, 0, none⟩) (splitN (bs t) [44] (n + 1)).length C) ∧ (∀ (j : Nat) p, (splitN (bs t) [44] (n + 1))[j]? = some p → w'.cell? ⟨W.heap.size, j, none⟩ = some (.string (yaf p))) ∧ W.heap.size < w'.heap.size ∧ Below W.heap.size W w') := fun W hW => by
  have := split_any 44 t (n + 1) (by omega) (by omega) ht W hW
  simpa using this
 have HR : Hid (yby n (bs t) = if (splitN (bs t) [44] (n + 1)).length = n then yff (splitN (bs t) [44] (n + 1)) else none) := rfl
 have HG := yab hg
 clear hg
 have HL : Hid (∀ p ∈ splitN (bs t) [44] (n + 1), p.length ≤ 10000000) := fun p hp => by
  have := ykc 44 _ p hp
  unfold splitN at this
  rw [yic, yax] at this
  omega
 generalize yby n (bs t) = R at *
 generalize splitN (bs t) [44] (n + 1) = ps at *
 have hz := yhj
 have M0 := yab (ycj.made' w #[.int .i64 0, .int .i64 0, .int .i64 0, .int .i64 0, .int .i64 0, .int .i64 0] 186 (n := 6) rfl)
 go_enter Tryz.func146, Tryz.ntmps146
 go_wp2_with fail
 go_at_call 195
 refine (SP.out _ (HG.out.below M0.out.below)).mono ?_
 rintro e w1 ⟨C, rfl, hpc, hlt, hb⟩
 have M1 := yab (ycj.call (p := True) ⟨M0.out, trivial⟩ hb)
 have PC := yab hpc
 have L1 := yab hlt
 clear hpc hlt hb
 have th1 := M1.out.there
 by_cases hn : ps.length = n
 ·have HR' : Hid (R = yff ps) := by unfold Hid; rw [HR.out, if_pos hn]
  clear HR
  subst hn
  have hz1 := M1.out.below.size
  have hz2 : w.heap.size < w1.heap.size := M1.out.lt
  have T0 : Hid (RT w (w1.alloc (.cells #[.int .i64 0, .int .i64 0, .int .i64 0, .int .i64 0, .int .i64 0, .int .i64 0] 186)) (w.heap.size + 1) ps w1.heap.size (lfn [])) := by
   have M2 := M1.out.alloc (.cells #[.int .i64 0, .int .i64 0, .int .i64 0, .int .i64 0, .int .i64 0, .int .i64 0] 186)
   have q := ycj.made' w1 #[.int .i64 0, .int .i64 0, .int .i64 0, .int .i64 0, .int .i64 0, .int .i64 0] 186 (n := 6) rfl
   have hB := L1.out
   simp at hB
   refine ⟨M2.below, M2.some, M2.fz, fun j p hp => ?_, fun j hj => ?_, q.fz, by omega, by omega, by simp⟩
   ·rw [World.cell?_alloc_old _ _ _ (by simp only; omega)]
    have := PC.out j p hp
    simpa using this
   ·simp only [World.cell?, heap_alloc_new]
    match j, hj with
    |0, _ | 1, _ | 2, _ | 3, _ | 4, _ | 5, _ => rfl
  clear PC L1 M0 M1 th1
  have dn : ((ps.length : Int) != (ps.length : Int)) = false := by simp
  go_wp2_with fail
  go_loopw [22] (fun iv wr => ∃ (i : Nat) (vs : List Nat), i ≤ ps.length ∧ iv = .int .i64 i ∧ Hid (yff (ps.take i) = some vs) ∧ Hid (RT w wr (w.heap.size + 1) ps w1.heap.size (lfn vs))) (fun iv _ => ps.length - (Go.RowKit.intOf iv).toNat)
  case atStart => exact ⟨0, [], Nat.zero_le _, rfl, rfl, T0⟩
  case round =>
   obtain ⟨i, vs, hi, rfl, hv, hT⟩ := hrel
   clear T0
   by_cases hin : i < ps.length
   ·obtain ⟨p, hp⟩ : ∃ p, ps[i]? = some p := ⟨ps[i], List.getElem?_eq_getElem hin⟩
    have pc := hT.out.pc i p hp
    have HQ : Hid (bs (yaf p) = p) := yah p
    have hq : (yaf p).size ≤ 10000000 := by rw [← yax, yah]; exact HL.out p (List.mem_of_getElem? hp)
    have HP := yab hp
    clear hp
    generalize yaf p = q at *
    have RN : Hid (Calls Tryz.prog 144 #[.string q] wr fun e w' => e = .returned (.tuple #[.int .i64 ((ygu p).getD 0 : Nat), .bool (ygu p).isSome]) ∧ RT w w' (w.heap.size + 1) ps w1.heap.size (lfn vs)) := by
     refine (yei q (by omega) wr (HG.out.below hT.out.bel)).mono ?_
     rintro e w' ⟨rfl, hb⟩
     rw [HQ.out]
     exact ⟨rfl, hT.out.below hb⟩
    have i6 : i < 6 := by omega
    have hvl : Hid (vs.length = i) := by have := numsR_len hv.out; rw [List.length_take] at this; unfold Hid; omega
    cases hN : ygu p with
    |none =>
     rw [hN] at RN
     have eR : R = none := by rw [HR'.out]; exact numsR_stop HP.out hN
     subst eR
     go_wp2_with (go_at_call 144; refine (RN.out).mono ?_; rintro e w5 ⟨rfl, h5⟩; have H5 := yab h5; clear h5; have t5 := H5.out.tc i i6; have f5 := H5.out.tfz i; have P5 := yab (H5.out.put i 0); have k5 := P5.out.there; dsimp only)
     exact bodyPost_ret (yam Tryz.results146 (a := ⟨w.heap.size, 0, none⟩) rfl (yan (cs := [_, _, _, _, _, _]) P5.out.there Tryz.underlying186 rfl yhj)) rfl ⟨rfl, Below.setCells P5.out.bel (Nat.le_refl _) _ _⟩
    |some v =>
     rw [hN] at RN
     simp only [Option.getD_some, Option.isSome_some] at RN
     go_wp2_with (go_at_call 144; refine (RN.out).mono ?_; rintro e w5 ⟨rfl, h5⟩; have H5 := yab h5; clear h5; have t5 := H5.out.tc i i6; have f5 := H5.out.tfz i; have P5 := yab (H5.out.put i v); dsimp only)
     refine ⟨⟨i + 1, vs ++ [v], by omega, by go_num, numsR_step hv.out HP.out hN, ?_⟩, by simp [Go.RowKit.intOf]; omega⟩
     unfold Hid
     rw [lfn_snoc, hvl.out]
     exact P5.out
   ·have ei : i = ps.length := by omega
    subst ei
    have eR : R = some vs := by rw [HR'.out, ← hv.out, List.take_length]
    subst eR
    have k1 := hT.out.there
    have k2 := hT.out.tthere
    have k3 := hT.out.rng
    go_wp2
    exact bodyPost_ret (yam Tryz.results146 (a := ⟨w.heap.size, 0, none⟩) rfl (yan (cs := [_, _, _, _, _, _]) hT.out.there Tryz.underlying186 rfl yhj)) rfl ⟨rfl, Below.setCells hT.out.bel (Nat.le_refl _) _ _⟩
 ·have e : R = none := by rw [HR.out, if_neg hn]
  subst e
  have dn : ((ps.length : Int) != (n : Int)) = true := by simp; omega
  go_wp2
  exact bodyPost_ret (yam Tryz.results146 (a := ⟨w.heap.size, 0, none⟩) rfl (yan (cs := [_, _, _, _, _, _]) M1.out.there Tryz.underlying186 rfl yhj)) rfl ⟨rfl, (ycj.setCells (p := True) ⟨M1.out, trivial⟩ 0 _).below⟩
end Go.Proofs.K

namespace Go.Proofs.K
open Go.RowKit Go.Lib
variable {w wr : World} {eb : Nat} {x y : Int}
theorem cut_any (c : UInt8) (s : ByteArray) (hs : s.size ≤ 10000000) (w : World) (hg : yez w) :
  Calls Tryz.prog 79 #[.string s, .string ⟨#[c]⟩] w fun e w' => e = .returned (.tuple #[.string (yaf (Lib.cut (bs s) [c]).1), .string (yaf (Lib.cut (bs s) [c]).2.1), .bool (Lib.cut (bs s) [c]).2.2]) ∧ ∃ n, w' = w.drewN n := by
 obtain ⟨mx, hmx⟩ := hg.max
 exact Tryz.strings_Cut s ⟨#[c]⟩ mx w (by omega) hmx
theorem yhr (c : UInt8) (s : Bs) : (Lib.cut s [c]).1.length ≤ s.length ∧ (Lib.cut s [c]).2.1.length ≤ s.length := by
 rcases yje c s with ⟨_, q⟩ | ⟨a, b, rfl, h2, _⟩
 ·rw [yts c s q]; simp
 ·rw [yoz c a b h2]; simp; omega
theorem numR_nil : ygu [] = none := rfl
def ycl (n : Nat) (t : Bs) : Option (Nat × Nat) := (ygu (Lib.cut t [58]).1).bind fun r => (ygu (Lib.cut t [58]).2.1).bind fun k => if r < n ∧ 1 ≤ k then some (r, k) else none
theorem ymr (n : Nat) (hn : n ≤ 6) (t : Bs) (r k : Nat) : ycl n t = some (r, k) ↔ r < n ∧ 1 ≤ k ∧ k ≤ 1000000000 ∧ t = decDigits r ++ 58 :: decDigits k := by
 unfold ycl
 constructor
 ·intro h
  simp only [Option.bind_eq_some_iff] at h
  obtain ⟨r', h1, k', h2, h3⟩ := h
  split at h3
  ·rename_i hc
   cases h3
   rcases yje 58 t with ⟨_, q⟩ | ⟨a, b, rfl, q, _⟩
   ·rw [yts 58 t q, numR_nil] at h2
    cases h2
   ·rw [yoz 58 a b q] at h1 h2
    obtain ⟨_, rfl⟩ := (yjy _ _).1 h1
    obtain ⟨h4, rfl⟩ := (yjy _ _).1 h2
    exact ⟨hc.1, hc.2, h4, rfl⟩
  ·cases h3
 ·rintro ⟨h1, h2, h3, rfl⟩
  rw [yoz 58 _ _ (ynm r 58 (by decide)), ylt r (by omega), ylt k h3]
  simp [h1, h2]
theorem yeg : (Tryz.prog.info? 191).map (·.size) = some 2 := by kernel_rfl
theorem ldEvent (p : Value) : Instr.loadAt 191 p = ldM 191 p := rfl
theorem stEvent (p v : Value) : Instr.storeAt 191 p v = stM 191 p v := rfl
theorem yqd (w : World) (b o : Nat) (ht : w.there b o 2) : (ldM 191 (.pointer (some ⟨b, o, none⟩))).run Tryz.prog w = .ok (.agg (rngv w b o 2).toArray) w :=
 run_loadAt_mid w b o _ (rngv w b o 2) _ (ysw (fun j hj => (ht j hj).1)) Tryz.underlying191 rfl (by rw [yqb]; exact yeg)
theorem yqe (w : World) (b o : Nat) (x0 x1 : Int) (ht : w.there b o 2) :
  (stM 191 (.pointer (some ⟨b, o, none⟩)) (.agg #[.int .i64 x0, .int .i64 x1])).run Tryz.prog w = .ok () (w.setCells b o [.int .i64 x0, .int .i64 x1]) :=
 run_storeAt_mid w b o _ #[.int .i64 x0, .int .i64 x1] ht yeg (by simp [Value.oneCell'])
structure RE (w wr : World) (eb : Nat) (x y : Int) : Prop where
 bel : Below w.heap.size w wr
 res : ∀ j, j < 2 → (wr.cell? ⟨w.heap.size, j, none⟩).isSome = true
 rfz : ∀ j, wr.frozen? ⟨w.heap.size, j, none⟩ = false
 c0 : wr.cell? ⟨eb, 0, none⟩ = some (.int .i64 x)
 c1 : wr.cell? ⟨eb, 1, none⟩ = some (.int .i64 y)
 efz : ∀ j, wr.frozen? ⟨eb, j, none⟩ = false
 o1 : w.heap.size < eb
 o2 : eb < wr.heap.size
theorem RE.below {w' : World} (h : RE w wr eb x y) (hb : Below wr.heap.size wr w') : RE w w' eb x y := by
 have h1 := h.o1
 have h2 := h.o2
 have K : ∀ k j, k < wr.heap.size → w'.cell? ⟨k, j, none⟩ = wr.cell? ⟨k, j, none⟩ := fun k j hk => hb.cell (p := ⟨k, j, none⟩) hk
 have F : ∀ k j, k < wr.heap.size → w'.frozen? ⟨k, j, none⟩ = wr.frozen? ⟨k, j, none⟩ := fun k j hk => World.frozen?_of_block (w := wr) (a := ⟨k, j, none⟩) (hb.block k hk)
 exact ⟨yec h.bel hb, fun j hj => by rw [K _ _ (by omega)]; exact h.res j hj, fun j => by rw [F _ _ (by omega)]; exact h.rfz j, by rw [K _ _ h2]; exact h.c0, by rw [K _ _ h2]; exact h.c1, fun j => by rw [F _ _ h2]; exact h.efz j, h1, by have := hb.size; omega⟩
theorem RE.put0 (h : RE w wr eb x y) (z : Int) : RE w (wr.setCell ⟨eb, 0, none⟩ (.int .i64 z)) eb z y :=
 ⟨h.bel.setCell (by have := h.o1; simp only; omega) _, fun j hj => yej (h.res j hj), fun j => by rw [World.frozen?_setCell]; exact h.rfz j, World.cell?_setCell_same _ _ _ h.c0, by rw [yex _ _ _ _ _ (by omega)]; exact h.c1, fun j => by rw [World.frozen?_setCell]; exact h.efz j, h.o1, by simpa using h.o2⟩
theorem RE.put1 (h : RE w wr eb x y) (z : Int) : RE w (wr.setCell ⟨eb, 1, none⟩ (.int .i64 z)) eb x z :=
 ⟨h.bel.setCell (by have := h.o1; simp only; omega) _, fun j hj => yej (h.res j hj), fun j => by rw [World.frozen?_setCell]; exact h.rfz j, by rw [yex _ _ _ _ _ (by omega)]; exact h.c0, World.cell?_setCell_same _ _ _ h.c1, fun j => by rw [World.frozen?_setCell]; exact h.efz j, h.o1, by simpa using h.o2⟩
theorem RE.there (h : RE w wr eb x y) : wr.there w.heap.size 0 2 := fun j hj => ⟨by simpa using h.res j hj, h.rfz _⟩
theorem RE.ethere (h : RE w wr eb x y) : wr.there eb 0 2 := fun j hj => ⟨by
 match j, hj with
 |0, _ => simp [h.c0]
 |1, _ => simp [h.c1], h.efz _⟩
theorem RE.rng (h : RE w wr eb x y) : rngv wr eb 0 2 = [.int .i64 x, .int .i64 y] :=
 rngv_eq rfl (fun j v hj => by
  match j with
  |0 => simp at hj; subst hj; exact h.c0
  |1 => simp at hj; subst hj; exact h.c1
  |j + 2 => simp at hj)
attribute [local go_sem ↓] stEvent ldEvent
attribute [local go_sem] yqe yqd
theorem ytl (t : ByteArray) (ht : t.size ≤ 10000000) (n : Nat) (h6 : n ≤ 6) (w : World) (hg : yez w) :
  Calls Tryz.prog 251 #[.string t, .int .i64 n] w fun e w' => e = .returned (.tuple #[.agg #[.int .i64 ((ycl n (bs t)).getD (0, 0)).1, .int .i64 ((ycl n (bs t)).getD (0, 0)).2], .bool (ycl n (bs t)).isSome]) ∧ Below w.heap.size w w' := by
 have CU : Hid (∀ W, yez W → Calls Tryz.prog 79 #[.string t, .string ⟨#[58]⟩] W fun e w' => e = .returned (.tuple #[.string (yaf (Lib.cut (bs t) [58]).1), .string (yaf (Lib.cut (bs t) [58]).2.1), .bool (Lib.cut (bs t) [58]).2.2]) ∧ ∃ n, w' = W.drewN n) := fun W hW => cut_any 58 t ht W hW
 have hsz := yhr 58 (bs t)
 rw [yax] at hsz
 have HE : Hid (ycl n (bs t) = (ygu (Lib.cut (bs t) [58]).1).bind fun r => (ygu (Lib.cut (bs t) [58]).2.1).bind fun k => if r < n ∧ 1 ≤ k then some (r, k) else none) := rfl
 have HG := yab hg
 clear hg
 generalize ycl n (bs t) = R at *
 generalize Lib.cut (bs t) [58] = cc at *
 obtain ⟨a, b, f⟩ := cc
 have NA : Hid (∀ W, yez W → Calls Tryz.prog 144 #[.string (yaf a)] W fun e w' => e = .returned (.tuple #[.int .i64 ((ygu a).getD 0 : Nat), .bool (ygu a).isSome]) ∧ Below W.heap.size W w') := fun W hW => by
  have := yei (yaf a) (by rw [← yax, yah]; have := hsz.1; simp only at this; omega) W hW
  rw [yah] at this
  exact this
 have NB : Hid (∀ W, yez W → Calls Tryz.prog 144 #[.string (yaf b)] W fun e w' => e = .returned (.tuple #[.int .i64 ((ygu b).getD 0 : Nat), .bool (ygu b).isSome]) ∧ Below W.heap.size W w') := fun W hW => by
  have := yei (yaf b) (by rw [← yax, yah]; have := hsz.2; simp only at this; omega) W hW
  rw [yah] at this
  exact this
 have hab : yaf a = yaf b → a = b := fun e => by rw [← yah a, e, yah]
 simp only at CU HE
 generalize ygu a = ra at *
 generalize ygu b = rb at *
 generalize yaf a = qa at *
 generalize yaf b = qb at *
 clear hsz hab
 have M0 := yab (ycj.made' w #[.int .i64 0, .int .i64 0] 191 (n := 2) rfl)
 have E0 : Hid (∀ m, RE w (((w.alloc (.cells #[.int .i64 0, .int .i64 0] 191)).drewN m).alloc (.cells #[.int .i64 0, .int .i64 0] 191)) (w.heap.size + 1) 0 0) := fun m => by
  have M1 := (M0.out.drewN m).alloc (.cells #[.int .i64 0, .int .i64 0] 191)
  have q := ycj.made' ((w.alloc (.cells #[.int .i64 0, .int .i64 0] 191)).drewN m) #[.int .i64 0, .int .i64 0] 191 (n := 2) rfl
  have hz : ((w.alloc (.cells #[.int .i64 0, .int .i64 0] 191)).drewN m).heap.size = w.heap.size + 1 := by simp
  have hfz := q.fz
  rw [hz] at hfz
  have hc : ∀ j v, (#[Value.int .i64 0, .int .i64 0] : Array Value)[j]? = some v → (((w.alloc (.cells #[.int .i64 0, .int .i64 0] 191)).drewN m).alloc (.cells #[.int .i64 0, .int .i64 0] 191)).cell? ⟨w.heap.size + 1, j, none⟩ = some v := fun j v hj => by
   rw [← hz]
   simp only [World.cell?, heap_alloc_new]
   exact hj
  exact ⟨M1.below, M1.some, M1.fz, hc 0 _ rfl, hc 1 _ rfl, hfz, by omega, by simp⟩
 go_enter Tryz.func251, Tryz.ntmps251
 go_wp2_with fail
 go_at_call 79
 refine (CU.out _ (HG.out.below M0.out.below)).mono ?_
 rintro e w1 ⟨rfl, m, rfl⟩
 have E1 := yab (E0.out m)
 clear E0 M0 CU
 go_wp2_with fail
 generalize hW : (((w.alloc (.cells #[.int .i64 0, .int .i64 0] 191)).drewN m).alloc (.cells #[.int .i64 0, .int .i64 0] 191)) = W at *
 clear hW
 cases ra with
 |none =>
  have e : R = none := HE.out
  subst e
  clear HE
  simp only [Option.getD_none, Option.isSome_none] at NA
  generalize (rb.getD 0 : Nat) = vb at *
  generalize rb.isSome = ob at *
  go_at_call 144
  refine (NA.out _ (HG.out.below E1.out.bel)).mono ?_
  rintro e w5 ⟨rfl, h5⟩
  have H5 := yab (E1.out.below h5)
  clear h5
  have a5 := H5.out.c0
  have f5 := H5.out.efz 0
  have P5 := yab (H5.out.put0 0)
  dsimp only
  go_wp2_with (go_at_call 144; refine (NB.out _ (HG.out.below P5.out.bel)).mono ?_; rintro e w6 ⟨rfl, h6'⟩; have H6 := yab (P5.out.below h6'); clear h6'; have a6 := H6.out.c0; have b6 := H6.out.c1; have f6 := H6.out.efz 1; have P6 := yab (H6.out.put1 vb); have x6 := P6.out.c0; have y6 := P6.out.c1; have k6 := P6.out.there; have l6 := P6.out.ethere; have g6 := P6.out.rng; dsimp only)
  exact bodyPost_ret (yam Tryz.results251 (a := ⟨w.heap.size, 0, none⟩) rfl (yan (cs := [_, _]) P6.out.there Tryz.underlying191 rfl yeg)) rfl ⟨rfl, Below.setCells P6.out.bel (Nat.le_refl _) _ _⟩
 |some r =>
  simp only [Option.getD_some, Option.isSome_some] at NA
  cases rb with
  |none =>
   have e : R = none := HE.out
   subst e
   clear HE
   simp only [Option.getD_none, Option.isSome_none] at NB
   go_at_call 144
   refine (NA.out _ (HG.out.below E1.out.bel)).mono ?_
   rintro e w5 ⟨rfl, h5⟩
   have H5 := yab (E1.out.below h5)
   clear h5
   have a5 := H5.out.c0
   have f5 := H5.out.efz 0
   have P5 := yab (H5.out.put0 r)
   dsimp only
   go_wp2_with (go_at_call 144; refine (NB.out _ (HG.out.below P5.out.bel)).mono ?_; rintro e w6 ⟨rfl, h6'⟩; have H6 := yab (P5.out.below h6'); clear h6'; have a6 := H6.out.c0; have b6 := H6.out.c1; have f6 := H6.out.efz 1; have P6 := yab (H6.out.put1 0); have x6 := P6.out.c0; have y6 := P6.out.c1; have k6 := P6.out.there; have l6 := P6.out.ethere; have g6 := P6.out.rng; dsimp only)
   exact bodyPost_ret (yam Tryz.results251 (a := ⟨w.heap.size, 0, none⟩) rfl (yan (cs := [_, _]) P6.out.there Tryz.underlying191 rfl yeg)) rfl ⟨rfl, Below.setCells P6.out.bel (Nat.le_refl _) _ _⟩
  |some k =>
   simp only [Option.getD_some, Option.isSome_some] at NB
   by_cases hr : r < n
   ·have d1 : decide ((n : Int) ≤ (r : Int)) = false := by simp; omega
    by_cases hk : 1 ≤ k
    ·have e : R = some (r, k) := by rw [HE.out]; simp [hr, hk]
     subst e
     clear HE
     have d2 : decide ((k : Int) < 1) = false := by simp; omega
     go_at_call 144
     refine (NA.out _ (HG.out.below E1.out.bel)).mono ?_
     rintro e w5 ⟨rfl, h5⟩
     have H5 := yab (E1.out.below h5)
     clear h5
     have a5 := H5.out.c0
     have f5 := H5.out.efz 0
     have P5 := yab (H5.out.put0 r)
     dsimp only
     go_wp2_with (go_at_call 144; refine (NB.out _ (HG.out.below P5.out.bel)).mono ?_; rintro e w6 ⟨rfl, h6'⟩; have H6 := yab (P5.out.below h6'); clear h6'; have a6 := H6.out.c0; have b6 := H6.out.c1; have f6 := H6.out.efz 1; have P6 := yab (H6.out.put1 k); have x6 := P6.out.c0; have y6 := P6.out.c1; have k6 := P6.out.there; have l6 := P6.out.ethere; have g6 := P6.out.rng; dsimp only)
     exact bodyPost_ret (yam Tryz.results251 (a := ⟨w.heap.size, 0, none⟩) rfl (yan (cs := [_, _]) P6.out.there Tryz.underlying191 rfl yeg)) rfl ⟨rfl, Below.setCells P6.out.bel (Nat.le_refl _) _ _⟩
    ·have e : R = none := by rw [HE.out]; simp [hk]
     subst e
     clear HE
     have d2 : decide ((k : Int) < 1) = true := by simp; omega
     go_at_call 144
     refine (NA.out _ (HG.out.below E1.out.bel)).mono ?_
     rintro e w5 ⟨rfl, h5⟩
     have H5 := yab (E1.out.below h5)
     clear h5
     have a5 := H5.out.c0
     have f5 := H5.out.efz 0
     have P5 := yab (H5.out.put0 r)
     dsimp only
     go_wp2_with (go_at_call 144; refine (NB.out _ (HG.out.below P5.out.bel)).mono ?_; rintro e w6 ⟨rfl, h6'⟩; have H6 := yab (P5.out.below h6'); clear h6'; have a6 := H6.out.c0; have b6 := H6.out.c1; have f6 := H6.out.efz 1; have P6 := yab (H6.out.put1 k); have x6 := P6.out.c0; have y6 := P6.out.c1; have k6 := P6.out.there; have l6 := P6.out.ethere; have g6 := P6.out.rng; dsimp only)
     exact bodyPost_ret (yam Tryz.results251 (a := ⟨w.heap.size, 0, none⟩) rfl (yan (cs := [_, _]) P6.out.there Tryz.underlying191 rfl yeg)) rfl ⟨rfl, Below.setCells P6.out.bel (Nat.le_refl _) _ _⟩
   ·have e : R = none := by rw [HE.out]; simp [hr]
    subst e
    clear HE
    have d1 : decide ((n : Int) ≤ (r : Int)) = true := by simp; omega
    go_at_call 144
    refine (NA.out _ (HG.out.below E1.out.bel)).mono ?_
    rintro e w5 ⟨rfl, h5⟩
    have H5 := yab (E1.out.below h5)
    clear h5
    have a5 := H5.out.c0
    have f5 := H5.out.efz 0
    have P5 := yab (H5.out.put0 r)
    dsimp only
    go_wp2_with (go_at_call 144; refine (NB.out _ (HG.out.below P5.out.bel)).mono ?_; rintro e w6 ⟨rfl, h6'⟩; have H6 := yab (P5.out.below h6'); clear h6'; have a6 := H6.out.c0; have b6 := H6.out.c1; have f6 := H6.out.efz 1; have P6 := yab (H6.out.put1 k); have x6 := P6.out.c0; have y6 := P6.out.c1; have k6 := P6.out.there; have l6 := P6.out.ethere; have g6 := P6.out.rng; dsimp only)
    exact bodyPost_ret (yam Tryz.results251 (a := ⟨w.heap.size, 0, none⟩) rfl (yan (cs := [_, _]) P6.out.there Tryz.underlying191 rfl yeg)) rfl ⟨rfl, Below.setCells P6.out.bel (Nat.le_refl _) _ _⟩
end Go.Proofs.K

namespace Go.Proofs.K
open Go.RowKit Go.Lib
theorem sum_any (s : ByteArray) (hs : s.size ≤ 1000000000000) (w : World) :
  Calls Tryz.prog 117 #[.string s] w fun e w' => e = .returned (.int .i64 (ycg s s.size)) ∧ ∃ q, w' = w.drewN q := by
 go_enter Tryz.func117, Tryz.ntmps117
 go_wp2
 go_loopw [3, 8] (fun v i wr => ∃ k q : Nat, k ≤ s.size ∧ i = .int .i64 k ∧ v = .int .i64 (ycg s k) ∧ wr = w.drewN q) (fun _ i _ => s.size - (Go.RowKit.intOf i).toNat)
 case atStart => exact ⟨0, 0, by omega, rfl, rfl, rfl⟩
 case round =>
  obtain ⟨k, q, hk, rfl, rfl, rfl⟩ := hrel
  have hlt := yme s k
  by_cases hx : k < s.size
  ·have e : s.data.getD k 0 = s[k] := (Array.getElem_eq_getD (h := hx) 0).symm
   have ST : Hid (ycg s (k + 1) = (ycg s k + (k + 1) * s[k].toNat) % 1000003) := by unfold Hid; rw [ycg, e]
   have hb : s[k].toNat < 256 := s[k].toNat_lt
   clear e
   generalize hS : ycg s k = S at *
   generalize hB : s[k].toNat = B at *
   have hP : (k + 1) % 1000003 < 1000003 := Nat.mod_lt _ (by omega)
   have eP : ((k : Int) + 1).tmod 1000003 = (((k + 1) % 1000003 : Nat) : Int) := by
    rw [Int.tmod_eq_emod_of_nonneg (by omega)]
    simp
   have HM : Hid ((S + (k + 1) % 1000003 * B) % 1000003 = (S + (k + 1) * B) % 1000003) := by
    unfold Hid
    rw [Nat.add_mod, Nat.mod_mul_mod, ← Nat.add_mod]
   generalize (k + 1) % 1000003 = P at *
   have hm : P * B ≤ 1000003 * 255 := Nat.mul_le_mul (by omega) (by omega)
   have m1 : (0 : Int) ≤ (P : Int) * (B : Int) := Int.mul_nonneg (by omega) (by omega)
   have m2 : (P : Int) * (B : Int) ≤ 255000765 := by
    have : ((P * B : Nat) : Int) ≤ ((1000003 * 255 : Nat) : Int) := Int.ofNat_le.2 hm
    rw [Int.natCast_mul] at this
    simpa using this
   have val : (wrap64 ((S : Int) + wrap64 ((P : Int) * wrap64 (B : Int)))).tmod 1000003 = (((S + P * B) % 1000003 : Nat) : Int) := by
    rw [yni (B : Int) (by omega), yni ((P : Int) * (B : Int)) (by omega), yni _ (by omega), Int.tmod_eq_emod_of_nonneg (by omega)]
    simp
   have HB := yab hB
   have HS := yab hS
   clear hB hS
   go_wp2
   go_roundw
   case rel => exact ⟨k + 1, _, by omega, by go_num, by rw [HB.out, ST.out, ← HM.out, ← val], rfl⟩
   case measure => simp [Go.RowKit.intOf]; omega
  ·have e : k = s.size := by omega
   subst e
   go_wp2
   go_ret
   exact ⟨rfl, _, rfl⟩
theorem yqk (s : ByteArray) (hs : s.size ≤ 1000000000000) (w : World) (hg : yez w) :
  Calls Tryz.prog 68 #[.string s] w fun e w' => e = .returned (.string (yaf (yfa (bs s)))) ∧ Below w.heap.size w w' := by
 have hlt := yme s s.size
 have SU := yab (sum_any s hs w)
 have IT : Hid (∀ q, Calls Tryz.prog 72 #[.int .i64 (ycg s s.size)] (w.drewN q) fun e w' => e = .returned (.string (yaf (decDigits (ycg s s.size)))) ∧ Below w.heap.size w w') := fun q => by
  have hb : Below w.heap.size w (w.drewN q) := ⟨rfl, rfl, rfl, Nat.le_refl _, fun _ _ => rfl⟩
  refine (Tryz.strconv_Itoa _ (by omega) (by omega) (w.drewN q) (hg.below hb).tab).mono ?_
  rintro e w' ⟨rfl, k, os, rfl⟩
  refine ⟨?_, yec hb (ymu _ k os)⟩
  unfold Lib.itoa
  rw [if_neg (by omega), Int.toNat_natCast]
  rfl
 have HL : Hid (yaf (yfa (bs s)) = (⟨#[115, 117, 109, 32]⟩ : ByteArray) ++ yaf (decDigits (ycg s s.size)) ++ ⟨#[10]⟩) := by
  unfold Hid yfa
  apply ygw
  rw [yah, ybv, ybv, yah, sumL_bs, List.append_assoc]
  rfl
 have hsz : (yaf (decDigits (ycg s s.size))).size ≤ 1000 := by
  rw [← yax, yah]
  have := yda 6 (ycg s s.size) (Nat.lt_of_lt_of_le hlt (by decide))
  omega
 generalize yaf (decDigits (ycg s s.size)) = dd at *
 generalize ycg s s.size = S at *
 clear hg
 go_enter Tryz.func68, Tryz.ntmps68
 go_wp2_with (first
  |(go_at_call 117; refine (SU.out).mono ?_; rintro e w1 ⟨rfl, q, rfl⟩)
  |(go_at_call 72; refine (IT.out q).mono ?_; rintro e w2 ⟨rfl, hb⟩))
 go_ret
 exact ⟨by rw [HL.out]; rfl, hb⟩
theorem at_bs (s : ByteArray) (j : Nat) (hj : j < s.size) : (bs s)[j]? = some (s.data[j]!) := by
 unfold bs
 have h : j < s.data.size := hj
 rw [Array.getElem?_toList, Array.getElem?_eq_getElem h, getElem!_pos s.data j h]
theorem ypg (u : ByteArray) : (lastIndexByte u 10 = -1 ∧ (10 : UInt8) ∉ bs u) ∨ ∃ a b, bs u = a ++ 10 :: b ∧ (10 : UInt8) ∉ b ∧ lastIndexByte u 10 = (a.length : Int) := by
 have ne : ∀ j, j < u.size → ((u.data[j]!).toNat : Int) ≠ 10 → (bs u)[j]? ≠ some 10 := fun j hj h q => by
  rw [at_bs u j hj] at q
  apply h
  rw [Option.some.inj q]
  rfl
 rcases lastIndexByte_spec u 10 with ⟨h1, h2⟩ | ⟨i, hi, h1, h2, h3⟩
 ·refine .inl ⟨h1, fun q => ?_⟩
  obtain ⟨j, hj⟩ := List.getElem?_of_mem q
  have hjl := (List.getElem?_eq_some_iff.1 hj).1
  rw [yax] at hjl
  exact ne j hjl (h2 j hjl) hj
 ·have hil : i < (bs u).length := by rw [yax]; exact hi
  have e10 : (bs u)[i] = 10 := by
   have := at_bs u i hi
   rw [List.getElem?_eq_getElem hil] at this
   have h4 := Option.some.inj this
   rw [h4]
   exact UInt8.toNat_inj.1 (Int.ofNat.inj h2)
  refine .inr ⟨(bs u).take i, (bs u).drop (i + 1), ?_, fun q => ?_, ?_⟩
  ·conv => lhs; rw [← List.take_append_drop i (bs u), List.drop_eq_getElem_cons hil, e10]
  ·obtain ⟨j, hj⟩ := List.getElem?_of_mem q
   rw [List.getElem?_drop] at hj
   have hjl := (List.getElem?_eq_some_iff.1 hj).1
   rw [yax] at hjl
   exact ne _ hjl (h3 _ (by omega) hjl) hj
  ·rw [h1, List.length_take, Nat.min_eq_left (by omega)]
def ykg (t : ByteArray) : ByteArray := yaf (trimSuffix (bs t) [10])
def yeo (t : ByteArray) : Nat := (lastIndexByte (ykg t) 10 + 1).toNat
theorem ytc (t : ByteArray) : ∃ k, k ≤ t.size ∧ bs (ykg t) = (bs t).take k := by
 unfold ykg
 rw [yah]
 unfold trimSuffix
 split
 ·exact ⟨(bs t).length - [(10 : UInt8)].length, by rw [yax]; omega, rfl⟩
 ·exact ⟨t.size, Nat.le_refl _, by rw [← yax, List.take_length]⟩
theorem yrz (t : ByteArray) : (yeo t : Int) = lastIndexByte (ykg t) 10 + 1 ∧ yeo t ≤ t.size ∧ ((bs t).take (yeo t) = [] ∨ ∃ a, (bs t).take (yeo t) = a ++ [10]) := by
 obtain ⟨k, hk, ek⟩ := ytc t
 unfold yeo
 rcases ypg (ykg t) with ⟨h1, _⟩ | ⟨a, b, h1, _, h3⟩
 ·rw [h1]
  exact ⟨rfl, Nat.zero_le _, .inl rfl⟩
 ·rw [h3]
  have e : ((a.length : Int) + 1).toNat = a.length + 1 := by omega
  rw [e]
  have hl : a.length + 1 ≤ k := by
   have := congrArg List.length (ek.symm.trans h1)
   simp [yax] at this
   omega
  refine ⟨by omega, by omega, .inr ⟨a, ?_⟩⟩
  have : (bs t).take (a.length + 1) = (bs (ykg t)).take (a.length + 1) := by rw [ek, List.take_take, Nat.min_eq_left hl]
  rw [this, h1, show a ++ (10 : UInt8) :: b = (a ++ [10]) ++ b by simp]
  exact List.take_left' (by simp)
theorem lastT_form (b : Bs) : ∃ m, yfa b = m ++ [10] ∧ (10 : UInt8) ∉ m := by
 refine ⟨bs sumW ++ decDigits (sumL b), by unfold yfa; rw [List.append_assoc], fun q => ?_⟩
 rcases List.mem_append.1 q with q | q
 ·revert q; decide
 ·exact ynm _ 10 (by decide) q
theorem trim_nl (x : Bs) : trimSuffix (x ++ [10]) [10] = x := by
 unfold trimSuffix hasSuffix
 rw [if_pos (by rw [List.isSuffixOf_iff_suffix]; exact List.suffix_append _ _)]
 simp
theorem ywg (a b a' b' : Bs) (h : a ++ (10 : UInt8) :: b = a' ++ 10 :: b') (hb : (10 : UInt8) ∉ b) (hb' : (10 : UInt8) ∉ b') : a = a' := by
 have h2 := congrArg List.reverse h
 simp only [List.reverse_append, List.reverse_cons, List.append_assoc, List.singleton_append] at h2
 have k1 := yud 10 b.reverse a.reverse (by simpa using hb)
 have k2 := yud 10 b'.reverse a'.reverse (by simpa using hb')
 rw [h2, k2] at k1
 have hl : b.length = b'.length := by simp at k1; omega
 have h3 := congrArg List.length h
 simp at h3
 exact List.append_inj_left h (by omega)
theorem ywl (t : ByteArray) (b : Bs) (h : bs t = b ++ yfa b) (hb : b = [] ∨ ∃ a, b = a ++ [10]) : yeo t = b.length := by
 obtain ⟨m, hm, hm10⟩ := lastT_form b
 have et : bs (ykg t) = b ++ m := by
  unfold ykg
  rw [yah, h, hm, ← List.append_assoc, trim_nl]
 unfold yeo
 rcases hb with rfl | ⟨a, rfl⟩
 ·rcases ypg (ykg t) with ⟨h1, _⟩ | ⟨a, b, h1, _, _⟩
  ·rw [h1]; rfl
  ·rw [et] at h1
   exact absurd (by rw [show m = a ++ 10 :: b from h1]; simp) hm10
 ·rcases ypg (ykg t) with ⟨_, h2⟩ | ⟨a', b', h1, h2, h3⟩
  ·exact absurd (by rw [et]; simp) h2
  ·rw [et, List.append_assoc] at h1
   have := ywg a m a' b' h1 hm10 h2
   subst this
   rw [h3]
   simp
def yin (t : ByteArray) : Option Bs := if (bs t).drop (yeo t) = yfa ((bs t).take (yeo t)) then some ((bs t).take (yeo t)) else none
theorem ylc (t : ByteArray) (b : Bs) : yin t = some b ↔ bs t = b ++ yfa b ∧ (b = [] ∨ ∃ a, b = a ++ [10]) := by
 unfold yin
 constructor
 ·intro h
  split at h
  ·rename_i hc
   cases h
   exact ⟨by rw [← hc, List.take_append_drop], (yrz t).2.2⟩
  ·cases h
 ·rintro ⟨h1, h2⟩
  have e := ywl t b h1 h2
  have et : (bs t).take (yeo t) = b := by rw [e, h1, List.take_left']; rfl
  have ed : (bs t).drop (yeo t) = yfa b := by rw [e, h1, List.drop_left']; rfl
  rw [et, ed, if_pos rfl]
theorem bs_take (s : ByteArray) (k : Nat) : bs (s.extract 0 k) = (bs s).take k := Lib.extract_from_zero s k
theorem bs_drop (s : ByteArray) (k : Nat) : bs (s.extract k s.size) = (bs s).drop k := by
 have := Lib.extract_to_end s k
 exact this
theorem Unseal_any (t : ByteArray) (ht : t.size ≤ 10000000) (w : World) (hg : yez w) :
  Calls Tryz.prog 78 #[.string t] w fun e w' => e = .returned (.tuple #[.string (yaf ((yin t).getD [])), .bool (yin t).isSome]) ∧ Below w.heap.size w w' := by
 obtain ⟨h1, h2, _⟩ := yrz t
 have TR : Hid (Calls Tryz.prog 141 #[.string t, .string ⟨#[10]⟩] w fun e w' => e = .returned (.string (ykg t)) ∧ w' = w) := Tryz.strings_TrimSuffix t ⟨#[10]⟩ w (by omega)
 have hts : (ykg t).size ≤ t.size := by
  obtain ⟨k, hk, ek⟩ := ytc t
  rw [← yax, ek, List.length_take, yax]
  omega
 have LI : Hid (Calls Tryz.prog 140 #[.string (ykg t), .int .u8 10] w fun e w' => e = .returned (.int .i64 ((yeo t : Int) - 1)) ∧ w' = w) := by
  refine (Tryz.strings_LastIndexByte (ykg t) 10 (by omega) w).mono ?_
  rintro e w' ⟨rfl, rfl⟩
  exact ⟨by rw [show (yeo t : Int) - 1 = lastIndexByte (ykg t) 10 by omega], rfl⟩
 have SL : Hid (∀ W, Below w.heap.size w W → Calls Tryz.prog 68 #[.string (t.extract 0 (yeo t))] W fun e w' => e = .returned (.string (yaf (yfa ((bs t).take (yeo t))))) ∧ Below w.heap.size w w') := fun W hb => by
  refine (yqk _ (by rw [ByteArray.size_extract]; omega) W (hg.below hb)).mono ?_
  rintro e w' ⟨rfl, hb'⟩
  rw [bs_take]
  exact ⟨rfl, yec hb hb'⟩
 have HU : Hid (yin t = if (t.extract (yeo t) t.size).toList == (yaf (yfa ((bs t).take (yeo t)))).toList then some ((bs t).take (yeo t)) else none) := by
  unfold Hid yin
  by_cases h : (bs t).drop (yeo t) = yfa ((bs t).take (yeo t))
  ·rw [if_pos h, if_pos]
   have e : t.extract (yeo t) t.size = yaf (yfa ((bs t).take (yeo t))) := ygw (by rw [bs_drop, yah]; exact h)
   exact (ydm _ _).2 e
  ·rw [if_neg h, if_neg]
   intro q
   have e := (ydm _ _).1 q
   exact h (by rw [← bs_drop, e, yah])
 have HT : Hid (yaf ((bs t).take (yeo t)) = t.extract 0 (yeo t)) := ygw (by rw [yah, bs_take])
 have B0 := yab (Below.refl w.heap.size w)
 clear h1 hts hg
 generalize yeo t = E at *
 generalize yaf (yfa ((bs t).take E)) = LT at *
 generalize ykg t = tt at *
 generalize yin t = R at *
 cases hc : ((t.extract E t.size).toList == LT.toList) with
 |true =>
  have e : R = some ((bs t).take E) := by rw [HU.out, hc]; rfl
  subst e
  go_enter Tryz.func78, Tryz.ntmps78
  go_wp2_with (first
   |(go_at_call 141; refine (TR.out).mono ?_; rintro e w1 ⟨rfl, rfl⟩)
   |(go_at_call 140; refine (LI.out).mono ?_; rintro e w1 ⟨rfl, rfl⟩))
  go_region_law (first
   |(go_simp; go_at_call 68; refine (SL.out _ (by first | exact B0.out | exact B0.out.drew | exact B0.out.drewN _)).mono ?_; rintro e w5 ⟨rfl, hb5⟩; have B5 := yab hb5; clear hb5; dsimp only))
  all_goals
   go_wp2
   go_ret2
   exact ⟨by rw [Option.getD_some, HT.out]; rfl, B5.out⟩
 |false =>
  have e : R = none := by rw [HU.out, hc]; rfl
  subst e
  go_enter Tryz.func78, Tryz.ntmps78
  go_wp2_with (first
   |(go_at_call 141; refine (TR.out).mono ?_; rintro e w1 ⟨rfl, rfl⟩)
   |(go_at_call 140; refine (LI.out).mono ?_; rintro e w1 ⟨rfl, rfl⟩))
  go_region_law (first
   |(go_simp; go_at_call 68; refine (SL.out _ (by first | exact B0.out | exact B0.out.drew | exact B0.out.drewN _)).mono ?_; rintro e w5 ⟨rfl, hb5⟩; have B5 := yab hb5; clear hb5; dsimp only))
  all_goals
   go_wp2
   go_ret2
   exact ⟨rfl, B5.out⟩
def ydb (t : Bs) : Bs := (Lib.cut t [10]).1
def ybi (t : Bs) : Bs := (Lib.cut t [10]).2.1
def yak (t : Bs) : List Bs := splitN (ydb t) [32] 6
structure Flds (w : World) (B : Nat) (fs : List Bs) : Prop where
 pc : ∀ (j : Nat) p, fs[j]? = some p → w.cell? ⟨B, j, none⟩ = some (.string (yaf p))
 lt : B < w.heap.size
theorem Flds.below {w w' : World} {B : Nat} {fs : List Bs} (h : Flds w B fs) (hb : Below w.heap.size w w') : Flds w' B fs :=
 ⟨fun j p hp => (hb.cell (p := ⟨B, j, none⟩) h.lt).trans (h.pc j p hp), Nat.lt_of_lt_of_le h.lt hb.size⟩
theorem Has_any (f : Nat → Int) (r : Nat) (k : Int) (hr : r < 6) (w : World) :
  Calls Tryz.prog 224 #[ygt f, .agg #[.int .i64 r, .int .i64 k]] w fun e w' => e = .returned (.bool (decide (k ≤ f r))) ∧ Below w.heap.size w w' := by
 unfold ygt
 have c : ∀ o, ((w.alloc (.cells #[.int .i64 (f 0), .int .i64 (f 1), .int .i64 (f 2), .int .i64 (f 3), .int .i64 (f 4), .int .i64 (f 5)] 186)).alloc o).cell? ⟨w.heap.size, r, none⟩ = some (.int .i64 (f r)) := fun o => by
  rw [World.cell?_alloc_old _ _ _ (by simp)]
  simp only [World.cell?, heap_alloc_new]
  match r, hr with
  |0, _ | 1, _ | 2, _ | 3, _ | 4, _ | 5, _ => rfl
 have hr1 : (0 : Int) ≤ (r : Int) := by omega
 have hr2 : (r : Int) < 6 := by omega
 have B : Hid (∀ q a b, Below w.heap.size w (((w.alloc a).alloc b).drewN q)) := fun q a b => by
  have := ((Below.refl w.heap.size w).alloc (Nat.le_refl _) a).alloc (by simp) b
  exact ⟨this.os, this.tape, this.output, this.size, this.block⟩
 go_enter Tryz.func224, Tryz.ntmps224
 go_wp2
 go_quiet (fail)
 go_wp2
 go_ret
 exact ⟨rfl, B.out _ _ _⟩
def dv (c : UInt8) : Int := indexByte (bs digs) c
theorem dv_all : ∀ k : Fin 256, (dv (UInt8.ofNat k.val) = -1 ∨ ((dv (UInt8.ofNat k.val)).toNat < 16 ∧ 0 ≤ dv (UInt8.ofNat k.val) ∧ UInt8.ofNat k.val = yuc (dv (UInt8.ofNat k.val)).toNat)) := by decide +kernel
theorem dv_hexd : ∀ k : Fin 16, dv (yuc k.val) = (k.val : Int) := by decide +kernel
theorem ytu (c : UInt8) : dv c = -1 ∨ ∃ k : Nat, k < 16 ∧ dv c = k ∧ c = yuc k := by
 have h := dv_all ⟨c.toNat, c.toNat_lt⟩
 simp only [ypn] at h
 rcases h with h | ⟨h1, h2, h3⟩
 ·exact .inl h
 ·exact .inr ⟨(dv c).toNat, h1, by omega, h3⟩
def ycs : Bs → Option Bs
 |[] => some []
 |[_] => none
 |x :: y :: l => if dv x < 0 ∨ dv y < 0 then none else (ycs l).map (UInt8.ofNat (16 * (dv x).toNat + (dv y).toNat) :: ·)
theorem yhe : ∀ (t u : Bs), ycs t = some u ↔ t = yir u
 |[], u => by
  cases u with
  |nil => simp [ycs, yub]
  |cons c u => simp [ycs, yjd]
 |[x], u => by
  cases u with
  |nil => simp [ycs, yub]
  |cons c u => simp [ycs, yjd]
 |x :: y :: l, u => by
  rw [ycs]
  constructor
  ·intro h
   split at h
   ·cases h
   ·rename_i hn
    obtain ⟨u', h1, rfl⟩ := Option.map_eq_some_iff.1 h
    have := (yhe l u').1 h1
    subst this
    rcases ytu x with q | ⟨i, hi, e1, e2⟩
    ·exact absurd (.inl (by omega)) hn
    ·rcases ytu y with q | ⟨j, hj, e3, e4⟩
     ·exact absurd (.inr (by omega)) hn
     ·rw [yjd, e1, e3]
      simp only [Int.toNat_natCast]
      have hv : (UInt8.ofNat (16 * i + j)).toNat = 16 * i + j := by rw [UInt8.toNat_ofNat']; omega
      rw [hv, show (16 * i + j) / 16 = i by omega, show (16 * i + j) % 16 = j by omega, ← e2, ← e4]
  ·intro h
   cases u with
   |nil => simp [yub] at h
   |cons c u =>
    rw [yjd] at h
    simp only [List.cons.injEq] at h
    obtain ⟨rfl, rfl, rfl⟩ := h
    have hc : c.toNat < 256 := c.toNat_lt
    have d1 := dv_hexd ⟨c.toNat / 16, by omega⟩
    have d2 := dv_hexd ⟨c.toNat % 16, by omega⟩
    simp only at d1 d2
    rw [d1, d2, if_neg (by omega), (yhe (yir u) u).2 rfl]
    simp only [Int.toNat_natCast, Option.map_some]
    rw [show 16 * (c.toNat / 16) + c.toNat % 16 = c.toNat by omega, ypn]
def yvw (t : Bs) : Option Bs := if hasPrefix t [61] = true ∧ (trimPrefix t [61]).length % 2 = 0 ∧ (trimPrefix t [61]).length ≤ 120 then ycs (trimPrefix t [61]) else none
theorem hexR_iff (t u : Bs) : yvw t = some u ↔ u.length ≤ 60 ∧ t = 61 :: yir u := by
 unfold yvw
 constructor
 ·intro h
  split at h
  ·rename_i hc
   have e : t = 61 :: trimPrefix t [61] := by
    have h1 := hc.1
    unfold hasPrefix at h1
    unfold trimPrefix hasPrefix
    rw [if_pos h1]
    cases t with
    |nil => simp [List.isPrefixOf] at h1
    |cons x t =>
     simp [List.isPrefixOf] at h1
     subst h1
     rfl
   have h2 := (yhe _ _).1 h
   have h3 := yhw u
   rw [← h2] at h3
   exact ⟨by omega, by rw [← h2]; exact e⟩
  ·cases h
 ·rintro ⟨h1, rfl⟩
  have hp : hasPrefix (61 :: yir u) [61] = true := by simp [hasPrefix, List.isPrefixOf]
  have e : trimPrefix (61 :: yir u) [61] = yir u := by unfold trimPrefix; rw [if_pos hp]; rfl
  have hl := yhw u
  rw [e, if_pos ⟨hp, by omega, by omega⟩]
  exact (yhe _ _).2 rfl
end Go.Proofs.K
