/- The program's reader of numbers. The program's readers, without memory: pieces of a text; times. A whole text: what the document's reader takes, and that it takes it. A whole text and its sum; a net without memory, and the text of it. Times of the program in memory: loads and stores of whole times; Alone, Greatest. -/
import Derived.Test.YtaelaldmibgibaaGreatDoorU01
import Derived.Test.YtaelaldmibgibaaGreatDoorU06
import Derived.Test.YtaelaldmibgibaaGreatDoorShelfU
import Derived.Deep.RegionLaw
import Derived.Lib.Split
import Derived.Test.YtaelaldmibgibaaGreatDoorU05

set_option linter.unusedVariables false
set_option linter.unusedSimpArgs false

namespace Go.Proofs.YtaelaldmibgibaaGreatDoor
open Go.RowKit Go.Lib Go.Sort

/-- the variables of Go's library that the readers ask -/
structure Glob (w : World) : Prop where
  max : ∃ m, w.cell? ⟨0, 0, none⟩ = some (.int .i64 m)
  syn : ∃ te pe, w.cell? ⟨2, 0, none⟩ = some (.iface te pe)
  rng : ∃ te pe, w.cell? ⟨3, 0, none⟩ = some (.iface te pe)
  tab : Lib.TabIs Tryz.prog w "internal/strconv.uint64pow10" .u64 Lib.pow10Tab
  sz : 8 ≤ w.heap.size
theorem glob_pow : Tryz.prog.globalNamed "internal/strconv.uint64pow10" = some 1 := by kernel_rfl
theorem Glob.below {w w' : World} (h : Glob w) (hb : Below w.heap.size w w') : Glob w' where
  max := by obtain ⟨m, q⟩ := h.max; exact ⟨m, (hb.cell (p := ⟨0, 0, none⟩) (by have := h.sz; simp only; omega)).trans q⟩
  syn := by obtain ⟨a, b, q⟩ := h.syn; exact ⟨a, b, (hb.cell (p := ⟨2, 0, none⟩) (by have := h.sz; simp only; omega)).trans q⟩
  rng := by obtain ⟨a, b, q⟩ := h.rng; exact ⟨a, b, (hb.cell (p := ⟨3, 0, none⟩) (by have := h.sz; simp only; omega)).trans q⟩
  tab := by
    have h1 := h.tab
    unfold Lib.TabIs World.var? at *
    rw [glob_pow] at *
    simp only [Option.bind_eq_bind, Option.bind_some] at *
    rw [hb.block 1 (by have := h.sz; omega)]
    exact h1
  sz := Nat.le_trans h.sz hb.size

theorem grow_below (w : World) (k : Nat) (os : Array Obj) : Below w.heap.size w (grow (w.drewN k) os) := by
  have h : (w.drewN k).heap = w.heap := rfl
  refine ⟨rfl, rfl, rfl, ?_, fun j hj => ?_⟩
  · simp [grow, h]
  · simp only [grow, h]
    rw [Array.getElem?_append_left hj]

/-- the number that a text tells -/
def numR (t : Bs) : Option Nat := match atoiAll t with
  | .ok v => if 0 ≤ v ∧ v ≤ 1000000000 ∧ decDigits v.toNat = t then some v.toNat else none
  | _ => none
theorem numR_told (n : Nat) (h : n ≤ 1000000000) : numR (decDigits n) = some n := by
  unfold numR
  rw [atoi_dig n h]
  simp only
  rw [if_pos ⟨by omega, by omega, by rw [Int.toNat_natCast]⟩, Int.toNat_natCast]
theorem numR_iff (t : Bs) (n : Nat) : numR t = some n ↔ n ≤ 1000000000 ∧ t = decDigits n := by
  constructor
  · intro h
    unfold numR at h
    split at h
    · split at h
      · rename_i v _ hc
        simp at h
        subst h
        exact ⟨by omega, hc.2.2.symm⟩
      · cases h
    · cases h
  · rintro ⟨h1, rfl⟩
    exact numR_told n h1

set_option maxHeartbeats 400000 in
theorem ReadNumber_any (t : ByteArray) (ht : t.size ≤ 1000000000000) (w : World) (hg : Glob w) :
    Calls Tryz.prog 144 #[.string t] w fun e w' => e = .returned (.tuple #[.int .i64 ((numR (bs t)).getD 0 : Nat), .bool (numR (bs t)).isSome]) ∧ Below w.heap.size w w' := by
  have HG := hide hg
  cases hA : atoiAll (bs t) with
  | range =>
    have e : numR (bs t) = none := by unfold numR; rw [hA]
    rw [e]
    obtain ⟨te, pe, hv⟩ := hg.rng
    have AT := hide (Tryz.strconv_Atoi_range t (by omega) hA _ w hv (.inr ⟨te, pe, rfl⟩))
    clear hg hv
    go_enter Tryz.func144, Tryz.ntmps144
    go_wp2_with (go_at_call 194; refine (AT.out).mono ?_; rintro e w' ⟨N, rfl, _, _, hb⟩)
    go_ret2
    exact ⟨rfl, hb⟩
  | ok v =>
    have AT : Hid (Calls Tryz.prog 194 #[.string t] w fun e w' => e = .returned (.tuple #[.int .i64 v, .nilIface]) ∧ Below w.heap.size w w') := (Tryz.strconv_Atoi_ok t (by omega) v hA w).mono fun e w' h => ⟨h.1, by
      rcases h.2 with rfl | ⟨t', rfl⟩
      · exact Below.refl _ _
      · exact Lib.bytesWorld_below _ _ _⟩
    obtain ⟨dd, hdd⟩ : ∃ dd : ByteArray, dd = ⟨(decDigits v.toNat).toArray⟩ := ⟨_, rfl⟩
    have IT : Hid (∀ W, Below w.heap.size w W → 0 ≤ v → v ≤ 1000000000 → Calls Tryz.prog 72 #[.int .i64 v] W fun e w' => e = .returned (.string dd) ∧ Below w.heap.size w w') := fun W hb h0 h1 => by
      refine (Tryz.strconv_Itoa v (by omega) (by omega) W (hg.below hb).tab).mono ?_
      rintro e w' ⟨rfl, k, os, rfl⟩
      refine ⟨?_, below_step hb (grow_below W k os)⟩
      rw [hdd]
      unfold Lib.itoa
      rw [if_neg (by omega)]
    have HD := hide hdd
    clear hg hdd
    by_cases h0 : 0 ≤ v
    · by_cases h1 : v ≤ 1000000000
      · have d0 : decide (v < 0) = false := by simp; omega
        have d1 : decide (1000000000 < v) = false := by simp; omega
        cases hc : (dd.toList == t.toList) with
        | true =>
          have e : numR (bs t) = some v.toNat := by
            unfold numR
            rw [hA]
            simp only
            rw [if_pos ⟨h0, h1, by rw [← (seq_iff _ _).1 hc, HD.out]; simp [bs]⟩]
          rw [e]
          go_enter Tryz.func144, Tryz.ntmps144
          go_wp2_with (first
            | (go_at_call 194; refine (AT.out).mono ?_; rintro e w' ⟨rfl, hb⟩; have HB := hide hb; clear hb)
            | (go_at_call 72; refine (IT.out _ HB.out h0 h1).mono ?_; rintro e w'' ⟨rfl, hb'⟩; have HB' := hide hb'; clear hb'))
          go_ret2
          refine ⟨?_, HB'.out⟩
          rw [Option.getD_some, Int.toNat_of_nonneg h0]
          rfl
        | false =>
          have e : numR (bs t) = none := by
            unfold numR
            rw [hA]
            simp only
            rw [if_neg]
            rintro ⟨_, _, q⟩
            have : dd = t := by rw [HD.out, q]; rfl
            have q2 := (seq_iff _ _).2 this
            unfold seq at q2
            rw [q2] at hc
            cases hc
          rw [e]
          go_enter Tryz.func144, Tryz.ntmps144
          go_wp2_with (first
            | (go_at_call 194; refine (AT.out).mono ?_; rintro e w' ⟨rfl, hb⟩; have HB := hide hb; clear hb)
            | (go_at_call 72; refine (IT.out _ HB.out h0 h1).mono ?_; rintro e w'' ⟨rfl, hb'⟩; have HB' := hide hb'; clear hb'))
          go_ret2
          exact ⟨rfl, HB'.out⟩
      · have e : numR (bs t) = none := by unfold numR; rw [hA]; simp only; rw [if_neg (by omega)]
        rw [e]
        have d0 : decide (v < 0) = false := by simp; omega
        have d1 : decide (1000000000 < v) = true := by simp; omega
        go_enter Tryz.func144, Tryz.ntmps144
        go_wp2_with (go_at_call 194; refine (AT.out).mono ?_; rintro e w' ⟨rfl, hb⟩)
        go_ret2
        exact ⟨rfl, hb⟩
    · have e : numR (bs t) = none := by unfold numR; rw [hA]; simp only; rw [if_neg (by omega)]
      rw [e]
      have d0 : decide (v < 0) = true := by simp; omega
      go_enter Tryz.func144, Tryz.ntmps144
      go_wp2_with (go_at_call 194; refine (AT.out).mono ?_; rintro e w' ⟨rfl, hb⟩)
      go_ret2
      exact ⟨rfl, hb⟩
  | _ =>
    have e : numR (bs t) = none := by unfold numR; rw [hA]
    rw [e]
    obtain ⟨te, pe, hv⟩ := hg.syn
    have AT := hide (Tryz.strconv_Atoi_syntax t (by omega) hA _ w hv (.inr ⟨te, pe, rfl⟩))
    clear hg hv
    go_enter Tryz.func144, Tryz.ntmps144
    go_wp2_with (go_at_call 194; refine (AT.out).mono ?_; rintro e w' ⟨N, rfl, _, _, hb⟩)
    go_ret2
    exact ⟨rfl, hb⟩

end Go.Proofs.YtaelaldmibgibaaGreatDoor

namespace Go.Proofs.YtaelaldmibgibaaGreatDoor
open Go.Lib

theorem idx_one (c : UInt8) : ∀ s : Bs, (index s [c] = -1 ∧ c ∉ s) ∨ ∃ a b, s = a ++ c :: b ∧ c ∉ a ∧ index s [c] = (a.length : Int)
  | [] => .inl ⟨rfl, by simp⟩
  | x :: l => by
    unfold index
    by_cases e : c = x
    · subst e
      refine .inr ⟨[], l, rfl, by simp, ?_⟩
      rw [if_pos (by simp [List.isPrefixOf])]
      rfl
    · rw [if_neg (by simp [List.isPrefixOf, e])]
      rcases idx_one c l with ⟨h1, h2⟩ | ⟨a, b, h1, h2, h3⟩
      · rw [h1]
        exact .inl ⟨by simp, by simp [e, h2]⟩
      · refine .inr ⟨x :: a, b, by rw [h1]; rfl, by simp [e, h2], ?_⟩
        rw [h3, if_neg (by simp)]
        simp
theorem idx_hit (c : UInt8) (a b : Bs) (h : c ∉ a) : index (a ++ c :: b) [c] = (a.length : Int) := by
  rcases idx_one c (a ++ c :: b) with ⟨_, q⟩ | ⟨a', b', h1, h2, h3⟩
  · simp at q
  · rw [h3]
    have : a = a' := by
      clear h3
      induction a generalizing a' with
      | nil =>
        cases a' with
        | nil => rfl
        | cons y a' => simp at h1; exact absurd h1.1 (by simp at h2; exact h2.1)
      | cons x a ih =>
        cases a' with
        | nil => simp at h1; exact absurd h1.1.symm (by simp at h; exact h.1)
        | cons y a' =>
          simp at h1 h h2
          obtain ⟨rfl, h1⟩ := h1
          rw [ih h.2 a' h1 h2.2]
    rw [this]
theorem idx_miss (c : UInt8) (s : Bs) (h : c ∉ s) : index s [c] = -1 := by
  rcases idx_one c s with ⟨q, _⟩ | ⟨a, b, h1, _, _⟩
  · exact q
  · exact absurd (by rw [h1]; simp) h
theorem pieces_hit (c : UInt8) (k : Nat) (a b : Bs) (h : c ∉ a) : splitK [c] 0 (k + 1) (a ++ c :: b) = a :: splitK [c] 0 k b := by
  rw [splitK, idx_hit c a b h, if_neg (by simp)]
  simp
theorem pieces_miss (c : UInt8) (k : Nat) (s : Bs) (h : c ∉ s) : splitK [c] 0 k s = [s] := by
  cases k with
  | zero => rfl
  | succ k => rw [splitK, idx_miss c s h, if_pos (by simp)]
theorem splitK_ne (c : UInt8) (k : Nat) (s : Bs) : splitK [c] 0 k s ≠ [] := by
  cases k with
  | zero => simp [splitK]
  | succ k => rw [splitK]; split <;> simp
theorem sepBy_cons (c : UInt8) (x : Bs) (l : List Bs) (h : l ≠ []) : sepBy c (x :: l) = x ++ c :: sepBy c l := by
  cases l with
  | nil => exact absurd rfl h
  | cons y l => exact sepBy_cons2 c x y l
theorem sepBy_one (c : UInt8) (x : Bs) : sepBy c [x] = x := by simp [sepBy]
/-- the pieces make the text -/
theorem pieces_join (c : UInt8) : ∀ (k : Nat) (s : Bs), sepBy c (splitK [c] 0 k s) = s
  | 0, s => sepBy_one c s
  | k + 1, s => by
    rcases idx_one c s with ⟨_, q⟩ | ⟨a, b, h1, h2, _⟩
    · rw [pieces_miss c _ s q, sepBy_one]
    · rw [h1, pieces_hit c k a b h2, sepBy_cons c a _ (splitK_ne c k b), pieces_join c k b]
/-- the text's pieces are those that it was made of -/
theorem pieces_of (c : UInt8) : ∀ (ps : List Bs) (k : Nat), ps ≠ [] → (∀ p ∈ ps, c ∉ p) → ps.length ≤ k + 1 → splitK [c] 0 k (sepBy c ps) = ps
  | [], _, h, _, _ => absurd rfl h
  | [x], k, _, h, _ => by rw [sepBy_one]; exact pieces_miss c k x (h x (by simp))
  | x :: y :: l, k, _, h, hk => by
    cases k with
    | zero => simp at hk
    | succ k =>
      rw [sepBy_cons2, pieces_hit c k x _ (h x (by simp)), pieces_of c (y :: l) k (by simp) (fun p hp => h p (List.mem_cons_of_mem _ hp)) (by simp at hk ⊢; omega)]
theorem sepBy_len (c : UInt8) : ∀ ps : List Bs, ps.length ≤ (sepBy c ps).length + 1
  | [] => by simp
  | [x] => by simp
  | x :: y :: l => by
    have := sepBy_len c (y :: l)
    rw [sepBy_cons2]
    simp at this ⊢
    omega
theorem cut_hit (c : UInt8) (a b : Bs) (h : c ∉ a) : Lib.cut (a ++ c :: b) [c] = (a, b, true) := by
  unfold Lib.cut
  rw [idx_hit c a b h, if_pos (by omega)]
  simp
theorem cut_miss (c : UInt8) (s : Bs) (h : c ∉ s) : Lib.cut s [c] = (s, [], false) := by
  unfold Lib.cut
  rw [idx_miss c s h, if_neg (by omega)]

theorem dig_no (v : Nat) (c : UInt8) (h : isD c = false) : c ∉ decDigits v := fun q => by
  rw [dig_digits v c q] at h
  cases h
/-- a list of numbers out of its pieces -/
def numsR : List Bs → Option (List Nat)
  | [] => some []
  | p :: l => (numR p).bind fun v => (numsR l).map (v :: ·)
theorem numsR_iff : ∀ (ps : List Bs) (l : List Nat), numsR ps = some l ↔ (∀ v ∈ l, v ≤ 1000000000) ∧ ps = l.map decDigits
  | [], l => by
    unfold numsR
    constructor
    · intro h
      simp at h
      subst h
      simp
    · rintro ⟨_, h⟩
      have : l = [] := by simpa using h.symm
      rw [this]
  | p :: ps, l => by
    unfold numsR
    constructor
    · intro h
      simp only [Option.bind_eq_some_iff, Option.map_eq_some_iff] at h
      obtain ⟨v, h1, l', h2, rfl⟩ := h
      obtain ⟨a, rfl⟩ := (numR_iff _ _).1 h1
      obtain ⟨b, rfl⟩ := (numsR_iff ps l').1 h2
      refine ⟨fun x hx => ?_, rfl⟩
      rcases List.mem_cons.1 hx with rfl | hx
      · exact a
      · exact b x hx
    · rintro ⟨h1, h2⟩
      cases l with
      | nil => simp at h2
      | cons v l =>
        simp only [List.map_cons, List.cons.injEq] at h2
        simp only [Option.bind_eq_some_iff, Option.map_eq_some_iff]
        exact ⟨v, (numR_iff _ _).2 ⟨h1 v (by simp), h2.1⟩, l, (numsR_iff ps l).2 ⟨fun x hx => h1 x (List.mem_cons_of_mem _ hx), h2.2⟩, rfl⟩
/-- the time that a text tells -/
def timeR (n : Nat) (t : Bs) : Option (List Nat) := if (splitN t [44] (n + 1)).length = n then numsR (splitN t [44] (n + 1)) else none
theorem timeR_iff (n : Nat) (hn : 1 ≤ n) (t : Bs) (l : List Nat) : timeR n t = some l ↔ l.length = n ∧ (∀ v ∈ l, v ≤ 1000000000) ∧ t = timeT l := by
  unfold timeR
  constructor
  · intro h
    split at h
    · rename_i hl
      obtain ⟨h1, h2⟩ := (numsR_iff _ _).1 h
      refine ⟨?_, h1, ?_⟩
      · rw [h2, List.length_map] at hl
        exact hl
      · unfold timeT
        rw [← h2]
        exact (pieces_join 44 _ t).symm
    · cases h
  · rintro ⟨h1, h2, rfl⟩
    have hne : l ≠ [] := fun e => by rw [e] at h1; simp at h1; omega
    have e : splitN (timeT l) [44] (n + 1) = l.map decDigits := by
      unfold splitN timeT
      have hlen := sepBy_len 44 (l.map decDigits)
      rw [List.length_map] at hlen
      exact pieces_of 44 (l.map decDigits) _ (by simpa using hne) (fun p hp => by
        obtain ⟨v, _, rfl⟩ := List.mem_map.1 hp
        exact dig_no v 44 (by decide)) (by rw [List.length_map]; omega)
    rw [e, List.length_map, if_pos h1]
    exact (numsR_iff _ _).2 ⟨h2, rfl⟩

end Go.Proofs.YtaelaldmibgibaaGreatDoor

namespace Go.Proofs.YtaelaldmibgibaaGreatDoor
open Go.Lib

theorem Got.lt {s : ByteArray} {x y : Nat × Bool} {t : Bs} (h : Got s x t y) (ht : t ≠ []) : x.1 < y.1 := by
  have := List.length_pos_iff.2 ht
  rw [h.2.1]
  show x.1 < x.1 + t.length
  omega
theorem recs_of (s : ByteArray) (n : Nat) (hn : n ≤ 6) (D : Drs) : ∀ (f : Nat) (x : Nat × Bool) (L : Rds) (D0 : Drs) (R : Bs), x.1 ≤ s.size → x.2 = false → s.size - x.1 < f → isDrs L D0 → okDrs n (D0 ++ D) → rest s x.1 = drsT D ++ R → blanks R < 2 →
    isDrs (recsS s n f x L).2 (D0 ++ D) ∧ Got s x (drsT D) (recsS s n f x L).1 := by
  induction D with
  | nil =>
    intro f x L D0 R hx h hf hi ho e hR
    have hl : lineB s x.1 = false := by
      rw [lineB_eq, e]
      exact decide_eq_false (by show ¬ 2 ≤ blanks ([] ++ R); rw [List.nil_append]; omega)
    have : recsS s n f x L = (x, L) := by
      cases f with
      | zero => rfl
      | succ f => rw [recsS, if_neg (by rw [hl]; simp)]
    rw [this]
    exact ⟨by simpa using hi, Got.refl h⟩
  | cons r D ih =>
    obtain ⟨p, d⟩ := r
    intro f x L D0 R hx h hf hi ho e hR
    have hp : pathOk p = true := ho.paths (p, d) (by simp)
    have hd : d.ok n := ho.oks (p, d) (by simp)
    have e0 : rest s x.1 = bs p ++ (d.T ++ (drsT D ++ R)) := by rw [e, drsT_cons]; simp
    have hl : lineB s x.1 = true := by
      rw [lineB_eq, e0]
      exact decide_eq_true (line_rec p d _ hp)
    have e1 : rest s x.1 = bs p ++ 32 :: ((timeT d.known ++ (32 :: (if d.there = true then d.tail else [45, 10]))) ++ (drsT D ++ R)) := by rw [e0]; simp [DS.T]
    obtain ⟨q1, q2⟩ := path_of s x.1 p _ hp e1
    have ep : (pathAt s x.1, x.2 || !pathOk (pathText s x.1)) = (x.1 + (bs p).length, false) := by rw [q1, q2, h, hp]; rfl
    have e2 : rest s (x.1 + (bs p).length) = d.T ++ (drsT D ++ R) := rest_step e0
    have g1 := Got.of (s := s) h e0
    have hle := g1.le hx
    obtain ⟨i1, g2⟩ := spot_of s n hn d hd (x.1 + (bs p).length, false) (drsT D ++ R) hle rfl e2
    have er : recS s n x = spotS s n (x.1 + (bs p).length, false) := by unfold recS; rw [ep]
    rw [← er] at i1 g2
    have g12 := g1.trans g2
    have hst : (recS s n x).st.2 = false := by rw [g2.2.1]
    have hnb : notBehind L p = false := by
      unfold notBehind
      cases hq : L.getLast? with
      | none => rfl
      | some z =>
        have e : (L.map (·.1)).getLast? = (D0.map (·.1)).getLast? := by rw [hi.1]
        rw [List.getLast?_map, List.getLast?_map, hq] at e
        cases hq2 : D0.getLast? with
        | none => rw [hq2] at e; cases e
        | some y =>
          rw [hq2] at e
          simp only [Option.map_some, Option.some.injEq] at e
          have hr := ho.rise
          rw [List.pairwise_append] at hr
          have := hr.2.2 y (List.mem_of_getLast? hq2) (p, d) (by simp)
          simp only [Bool.not_eq_false']
          rw [e]
          exact this
    cases f with
    | zero => omega
    | succ f =>
      rw [recsS, if_pos ⟨hl, h⟩, q1, hnb, Bool.or_false]
      have hne : bs p ++ d.T ≠ [] := by simp [DS.T]
      have hlt := g12.lt hne
      have hsz := g12.le hx
      have hf' : s.size - (recS s n x).st.1 < f := by omega
      have e3 : rest s (recS s n x).st.1 = drsT D ++ R := (g12.next (by rw [e0]; simp)).2
      obtain ⟨j1, j2⟩ := ih f (recS s n x).st (L ++ [(p, recS s n x)]) (D0 ++ [(p, d)]) R (g12.le hx) hst hf' (isDrs_snoc hi p _ d i1) (by simpa using ho) e3 hR
      refine ⟨by simpa using j1, ?_⟩
      rw [drsT_cons]
      have := g12.trans j2
      simpa using this

def replicaW : ByteArray := ⟨#[114, 101, 112, 108, 105, 99, 97, 32]⟩
def reunionW : ByteArray := ⟨#[114, 101, 117, 110, 105, 111, 110, 32]⟩
def sumW : ByteArray := ⟨#[115, 117, 109, 32]⟩
/-- a replica: where the reader stands behind it, its common time, its records -/
def repS (s : ByteArray) (n : Nat) (x : Nat × Bool) : (Nat × Bool) × List Int × Rds :=
  ((recsS s n (s.size - (wantS s newl (timeS s n (wantS s replicaW x)).1).1 + 1) (wantS s newl (timeS s n (wantS s replicaW x)).1) []).1, (timeS s n (wantS s replicaW x)).2, (recsS s n (s.size - (wantS s newl (timeS s n (wantS s replicaW x)).1).1 + 1) (wantS s newl (timeS s n (wantS s replicaW x)).1) []).2)
def repsS (s : ByteArray) (n : Nat) : Nat → Nat × Bool → (Nat × Bool) × List (List Int × Rds)
  | 0, x => (x, [])
  | k + 1, x => ((repS s n (repsS s n k x).1).1, (repsS s n k x).2 ++ [(repS s n (repsS s n k x).1).2])
/-- a replica, without a reader -/
structure DR where
  com : List Nat
  recs : Drs
def DR.T (d : DR) : Bs := bs replicaW ++ (timeT d.com ++ (10 :: drsT d.recs))
structure DR.ok (n : Nat) (d : DR) : Prop where
  cl : d.com.length = n
  cb : ∀ v ∈ d.com, v ≤ 1000000000
  recs : okDrs n d.recs
def isDR (r : List Int × Rds) (d : DR) : Prop := r.1 = ints d.com ∧ isDrs r.2 d.recs
def repsT (l : List DR) : Bs := (l.map DR.T).flatten
def isDRs (l : List (List Int × Rds)) (m : List DR) : Prop := l.length = m.length ∧ ∀ (i : Nat) a b, l[i]? = some a → m[i]? = some b → isDR a b
theorem recsS_no2 (s : ByteArray) (n f : Nat) (x : Nat × Bool) (L : Rds) (h : (recsS s n f x L).1.2 = false) : x.2 = false := by
  obtain ⟨a, no⟩ := x
  cases no with
  | false => rfl
  | true => rw [recsS_no] at h; cases h
theorem repS_no (s : ByteArray) (n : Nat) (x : Nat × Bool) (h : (repS s n x).1.2 = false) : x.2 = false := want_no _ _ _ (time_no _ _ _ (want_no _ _ _ (recsS_no2 _ _ _ _ _ h)))
theorem isDrs_nil : isDrs [] [] := ⟨rfl, fun i a b ha _ => by simp at ha⟩
theorem okDrs_nil (n : Nat) : okDrs n [] := ⟨by simp, by simp, List.Pairwise.nil⟩
theorem rep_got (s : ByteArray) (n : Nat) (x : Nat × Bool) (hx : x.1 ≤ s.size) (h : (repS s n x).1.2 = false) : ∃ d : DR, d.ok n ∧ isDR (repS s n x).2 d ∧ Got s x d.T (repS s n x).1 := by
  unfold repS at h ⊢
  simp only at h ⊢
  have a1 := recsS_no2 _ _ _ _ _ h
  have a2 := want_no _ _ _ a1
  have a3 := time_no _ _ _ a2
  have g1 := want_got s replicaW x hx a3
  obtain ⟨l, l1, l2, l3, g2⟩ := time_got s n _ (g1.le hx) a2
  have g12 := g1.trans g2
  have g3 := want_got s newl _ (g12.le hx) a1
  have g13 := g12.trans g3
  obtain ⟨D, i1, i2, g4⟩ := recs_got s n _ _ [] [] (g13.le hx) isDrs_nil (okDrs_nil n) h
  rw [List.nil_append] at i1 i2
  refine ⟨⟨l, D⟩, ⟨l1, l3, i2⟩, ⟨l2, i1⟩, ?_⟩
  have := g13.trans g4
  have e : DR.T ⟨l, D⟩ = replicaW.data.toList ++ timeT l ++ newl.data.toList ++ drsT D := by simp [DR.T, bs, newl]
  rw [e]
  exact this
theorem rep_of (s : ByteArray) (n : Nat) (hn : n ≤ 6) (d : DR) (hd : d.ok n) (x : Nat × Bool) (R : Bs) (hx : x.1 ≤ s.size) (h : x.2 = false) (e : rest s x.1 = d.T ++ R) (hR : blanks R < 2) : isDR (repS s n x).2 d ∧ Got s x d.T (repS s n x).1 := by
  have e0 : rest s x.1 = replicaW.data.toList ++ (timeT d.com ++ (10 :: (drsT d.recs ++ R))) := by rw [e]; simp [DR.T, bs]
  obtain ⟨g1, a1, r1⟩ := want_on replicaW hx h e0
  obtain ⟨p2, g2, a2, r2⟩ := time_on hd.cl (g1.le hx) a1 hd.cb r1 (noDig_cons 10 _ rfl)
  have g12 := g1.trans g2
  obtain ⟨g3, a3, r3⟩ := want_on newl (g12.le hx) a2 r2
  have g13 := g12.trans g3
  have hle := g13.le hx
  obtain ⟨j1, j2⟩ := recs_of s n hn d.recs _ _ [] [] R hle a3 (Nat.lt_succ_self _) isDrs_nil (by simpa using hd.recs) r3 hR
  rw [List.nil_append] at j1
  refine ⟨⟨p2, j1⟩, ?_⟩
  have := g13.trans j2
  have e : d.T = replicaW.data.toList ++ timeT d.com ++ newl.data.toList ++ drsT d.recs := by simp [DR.T, bs, newl]
  rw [e]
  exact this
theorem isDRs_snoc {l : List (List Int × Rds)} {m : List DR} (h : isDRs l m) (r : List Int × Rds) (d : DR) (hr : isDR r d) : isDRs (l ++ [r]) (m ++ [d]) := by
  refine ⟨by simp [h.1], ?_⟩
  intro i a b ha hb
  by_cases hi : i < l.length
  · rw [List.getElem?_append_left hi] at ha
    rw [List.getElem?_append_left (by rw [← h.1]; exact hi)] at hb
    exact h.2 i a b ha hb
  · rw [List.getElem?_append_right (by omega)] at ha
    rw [List.getElem?_append_right (by rw [← h.1]; omega)] at hb
    have hi2 : i - l.length = 0 := by
      by_cases q : i - l.length = 0
      · exact q
      · rw [List.getElem?_eq_none (by simp; omega)] at ha
        cases ha
    rw [hi2] at ha
    rw [← h.1, hi2] at hb
    simp at ha hb
    subst ha hb
    exact hr
theorem reps_got (s : ByteArray) (n : Nat) (k : Nat) (x : Nat × Bool) (hx : x.1 ≤ s.size) (h : (repsS s n k x).1.2 = false) : ∃ m : List DR, m.length = k ∧ (∀ d ∈ m, d.ok n) ∧ isDRs (repsS s n k x).2 m ∧ Got s x (repsT m) (repsS s n k x).1 := by
  induction k with
  | zero => exact ⟨[], rfl, by simp, ⟨rfl, fun i a b ha _ => by simp [repsS] at ha⟩, Got.refl h⟩
  | succ k ih =>
    have h1 := repS_no s n _ h
    obtain ⟨m, m1, m2, m3, g⟩ := ih h1
    obtain ⟨d, d1, d2, g2⟩ := rep_got s n _ (g.le hx) h
    refine ⟨m ++ [d], by simp [m1], ?_, isDRs_snoc m3 _ d d2, ?_⟩
    · intro e he
      rcases List.mem_append.1 he with q | q
      · exact m2 e q
      · simp only [List.mem_singleton] at q; subst q; exact d1
    · have := g.trans g2
      have e : repsT (m ++ [d]) = repsT m ++ d.T := by simp [repsT]
      rw [e]
      exact this
theorem repsT_cons (d : DR) (m : List DR) : repsT (d :: m) = d.T ++ repsT m := by simp [repsT]
theorem blanks_rep (d : DR) (R : Bs) : blanks (d.T ++ R) < 2 := by
  obtain ⟨h3, h4⟩ := timeT_plain d.com
  have e : d.T ++ R = (bs replicaW ++ timeT d.com) ++ (10 :: (drsT d.recs ++ R)) := by simp [DR.T]
  have hn : noNl (bs replicaW) := by unfold noNl; decide
  rw [e, blanks_append _ _ (noNl_append hn h3), blanks_nl, List.count_append, h4]
  have : (bs replicaW).count 32 = 1 := by decide
  omega
theorem reps_of (s : ByteArray) (n : Nat) (hn : n ≤ 6) (R : Bs) (hR : blanks R < 2) (m2 : List DR) : ∀ (m : List DR) (k : Nat) (x : Nat × Bool), x.1 ≤ s.size → (∀ d ∈ m2, d.ok n) → isDRs (repsS s n k x).2 m → Got s x (repsT m) (repsS s n k x).1 → rest s x.1 = repsT m ++ (repsT m2 ++ R) →
    isDRs (repsS s n (k + m2.length) x).2 (m ++ m2) ∧ Got s x (repsT (m ++ m2)) (repsS s n (k + m2.length) x).1 := by
  induction m2 with
  | nil => intro m k x hx _ hi g e; simpa using ⟨hi, g⟩
  | cons d m2 ih =>
    intro m k x hx hok hi g e
    obtain ⟨a1, r1⟩ := g.next e
    have r2 : rest s (repsS s n k x).1.1 = d.T ++ (repsT m2 ++ R) := by rw [r1, repsT_cons]; simp
    have hb : blanks (repsT m2 ++ R) < 2 := by
      cases m2 with
      | nil => simpa [repsT] using hR
      | cons d2 m2 => rw [repsT_cons, List.append_assoc]; exact blanks_rep d2 _
    obtain ⟨j1, j2⟩ := rep_of s n hn d (hok d (by simp)) _ _ (g.le hx) a1 r2 hb
    have e1 : repsT (m ++ [d]) = repsT m ++ d.T := by simp [repsT]
    have := ih (m ++ [d]) (k + 1) x hx (fun q hq => hok q (by simp [hq])) (isDRs_snoc hi _ d j1) (by rw [e1]; exact g.trans j2) (by rw [e, e1, repsT_cons]; simp)
    rw [show k + (d :: m2).length = k + 1 + m2.length by simp; omega]
    simpa using this

end Go.Proofs.YtaelaldmibgibaaGreatDoor

namespace Go.Proofs.YtaelaldmibgibaaGreatDoor
open Go.Lib

def ofBs (l : Bs) : ByteArray := ⟨l.toArray⟩
theorem bs_ofBs (l : Bs) : bs (ofBs l) = l := by simp [bs, ofBs]
theorem ofBs_bs (s : ByteArray) : ofBs (bs s) = s := bs_inj (bs_ofBs _)
theorem ofBs_size (l : Bs) : (ofBs l).size = l.length := by rw [← bs_len, bs_ofBs]
def sumL (l : Bs) : Nat := sumTo (ofBs l) l.length
theorem sumL_bs (s : ByteArray) : sumL (bs s) = sumTo s s.size := by unfold sumL; rw [ofBs_bs, bs_len]
theorem bs_append (a b : ByteArray) : bs (a ++ b) = bs a ++ bs b := by simp [bs]
theorem bs_dig1 (n : Nat) : bs (dig1 n) = [UInt8.ofNat (48 + n % 10)] := by
  have key : ∀ k : Fin 10, bs ((⟨#[48, 49, 50, 51, 52, 53, 54, 55, 56, 57]⟩ : ByteArray).extract k.val (k.val + 1)) = [UInt8.ofNat (48 + k.val)] := by
    intro k
    rw [bs_extract]
    unfold rest
    revert k
    decide
  exact key ⟨n % 10, Nat.mod_lt _ (by omega)⟩
theorem bs_decF (f : Nat) : ∀ n, n < f → bs (decF f n) = decDigits n := by
  induction f with
  | zero => intro n h; omega
  | succ f ih =>
    intro n h
    rw [decF]
    by_cases h10 : n < 10
    · rw [if_pos h10, bs_dig1, dig_small h10, Nat.mod_eq_of_lt h10]
    · rw [if_neg h10, bs_append, ih (n / 10) (by omega), bs_dig1, dig_big h10]

/-- the text of a net, but for its last line -/
def bodyT (m : List DR) : Bs := bs reunionW ++ (decDigits m.length ++ (10 :: repsT m))
def lastT (l : Bs) : Bs := bs sumW ++ (decDigits (sumL l) ++ [10])
def packT (m : List DR) : Bs := bodyT m ++ lastT (bodyT m)
structure okNet (m : List DR) : Prop where
  n1 : 1 ≤ m.length
  n6 : m.length ≤ 6
  oks : ∀ d ∈ m, d.ok m.length

def headS (s : ByteArray) : Nat × Bool := wantS s newl (numS s (wantS s reunionW (0, false)))
def headN (s : ByteArray) : Nat := numVal s (wantS s reunionW (0, false)).1
/-- all lines but the last one: where the reader stands, what it read -/
def allS (s : ByteArray) : (Nat × Bool) × List (List Int × Rds) := repsS s (headN s) (headN s) (headS s)
def headOk (s : ByteArray) : Bool := !(headS s).2 && (decide (1 ≤ headN s) && decide (headN s ≤ 6))
def textOk (s : ByteArray) : Bool := headOk s && (!(allS s).1.2 && (rest s (allS s).1.1 == lastT (bs (s.extract 0 (allS s).1.1))))
theorem rest_zero (s : ByteArray) : rest s 0 = bs s := rfl
theorem text_got (s : ByteArray) (h : textOk s = true) : ∃ m : List DR, okNet m ∧ m.length = headN s ∧ bs s = packT m ∧ isDRs (allS s).2 m := by
  unfold textOk headOk at h
  simp only [Bool.and_eq_true, Bool.not_eq_true', decide_eq_true_eq, beq_iff_eq] at h
  obtain ⟨⟨h1, h2, h3⟩, h4, h5⟩ := h
  have a2 := want_no _ _ _ h1
  have a3 := num_no _ _ a2
  have g1 := want_got s reunionW (0, false) (Nat.zero_le _) a3
  obtain ⟨g2, v2⟩ := num_got s _ a2
  have g12 := g1.trans g2
  have g3 := want_got s newl _ (g12.le (Nat.zero_le _)) h1
  have g13 := g12.trans g3
  obtain ⟨m, m1, m2, m3, g4⟩ := reps_got s (headN s) (headN s) (headS s) (g13.le (Nat.zero_le _)) h4
  have g14 := g13.trans g4
  refine ⟨m, ⟨by omega, by omega, by rw [m1]; exact m2⟩, m1, ?_, m3⟩
  have e := g14.2.2
  have eb : reunionW.data.toList ++ decDigits (numVal s (wantS s reunionW (0, false)).1) ++ newl.data.toList ++ repsT m = bodyT m := by
    unfold bodyT
    rw [m1]
    simp [bs, newl, headN]
  rw [eb] at e g14
  have ep : (allS s).1.1 = (bodyT m).length := by
    have := g14.2.1
    unfold allS
    rw [this]
    simp
  rw [show (0 : Nat) + (bodyT m).length = (allS s).1.1 by rw [ep]; omega] at e
  have e0 : bs s = bodyT m ++ rest s (allS s).1.1 := e
  have eh : bs (s.extract 0 (allS s).1.1) = bodyT m := by
    rw [bs_extract, rest_zero, e0, ep, Nat.sub_zero, List.take_left]
  rw [e0, h5, eh]
  rfl
theorem blanks_last (l : Bs) : blanks (lastT l) < 2 := by
  have e : lastT l = (bs sumW ++ decDigits (sumL l)) ++ (10 :: []) := by simp [lastT]
  have h1 : noNl (bs sumW) := by unfold noNl; decide
  have h2 : noNl (decDigits (sumL l)) := fun c hc => (isD_ne c (dig_digits _ c hc)).1
  have h3 : (decDigits (sumL l)).count 32 = 0 := by
    rw [List.count_eq_zero]
    intro hc
    exact (isD_ne 32 (dig_digits _ _ hc)).2.1 rfl
  rw [e, blanks_append _ _ (noNl_append h1 h2), blanks_nl, List.count_append, h3]
  have : (bs sumW).count 32 = 1 := by decide
  omega
theorem text_of (s : ByteArray) (m : List DR) (hm : okNet m) (e : bs s = packT m) : textOk s = true ∧ headN s = m.length ∧ isDRs (allS s).2 m := by
  have hn := hm.n1
  have hn6 := hm.n6
  have e0 : rest s 0 = reunionW.data.toList ++ (decDigits m.length ++ (10 :: (repsT m ++ lastT (bodyT m)))) := by
    rw [rest_zero, e]
    simp [packT, bodyT, bs]
  obtain ⟨g1, a1, r1⟩ := want_on (x := (0, false)) reunionW (Nat.zero_le _) rfl e0
  obtain ⟨p2, g2, a2, r2⟩ := num_on a1 r1 (by omega) (noDig_cons 10 _ rfl)
  have g12 := g1.trans g2
  obtain ⟨g3, a3, r3⟩ := want_on newl (g12.le (Nat.zero_le _)) a2 r2
  have g13 := g12.trans g3
  have hN : headN s = m.length := p2
  have hle : (headS s).1 ≤ s.size := g13.le (Nat.zero_le _)
  have g0 : Got s (headS s) (repsT []) (repsS s m.length 0 (headS s)).1 := Got.refl a3
  obtain ⟨j1, j2⟩ := reps_of s m.length hn6 (lastT (bodyT m)) (blanks_last _) m [] 0 (headS s) hle hm.oks ⟨rfl, fun i a b ha _ => by simp [repsS] at ha⟩ g0 (by rw [show rest s (headS s).1 = _ from r3]; simp [repsT])
  rw [List.nil_append, Nat.zero_add] at j1 j2
  have ea : allS s = repsS s m.length m.length (headS s) := by unfold allS; rw [hN]
  rw [← ea] at j1 j2
  refine ⟨?_, hN, j1⟩
  have g14 := g13.trans j2
  have eb : reunionW.data.toList ++ decDigits m.length ++ newl.data.toList ++ repsT m = bodyT m := by simp [bodyT, bs, newl]
  rw [eb] at g14
  have ep : (allS s).1.1 = (bodyT m).length := by rw [g14.2.1]; simp
  have hno : (allS s).1.2 = false := by rw [g14.2.1]
  have er : rest s (allS s).1.1 = lastT (bodyT m) := (g14.next (by rw [rest_zero, e]; rfl)).2
  have eh : bs (s.extract 0 (allS s).1.1) = bodyT m := by
    rw [bs_extract, rest_zero, e, ep, Nat.sub_zero]
    unfold packT
    rw [List.take_left]
  unfold textOk headOk
  rw [hno, er, eh, hN]
  have : (headS s).2 = false := a3
  rw [this]
  simp
  omega

end Go.Proofs.YtaelaldmibgibaaGreatDoor

namespace Go.Proofs.YtaelaldmibgibaaGreatDoor
open Go.RowKit

theorem size_Time : (Tryz.prog.info? 186).map (·.size) = some 6 := by kernel_rfl
/-- what n cells hold -/
def rngv (w : World) (b o n : Nat) : List Value := (List.range n).map (fun j => (w.cell? ⟨b, o + j, none⟩).getD (.bool false))
theorem rngv_eq {w : World} {b o n : Nat} {cs : List Value} (hl : cs.length = n) (h : w.rangeAt b o cs) : rngv w b o n = cs := by
  apply List.ext_getElem?
  intro i
  unfold rngv
  by_cases hi : i < n
  · rw [List.getElem?_map, List.getElem?_range hi]
    have hi' : i < cs.length := by omega
    rw [List.getElem?_eq_getElem hi']
    simp only [Option.map_some]
    rw [h i cs[i] (List.getElem?_eq_getElem hi')]
    rfl
  · rw [List.getElem?_map, List.getElem?_eq_none (by simp; omega), List.getElem?_eq_none (by omega)]
    rfl
theorem rngv_range {w : World} {b o n : Nat} (h : ∀ j, j < n → (w.cell? ⟨b, o + j, none⟩).isSome = true) : w.rangeAt b o (rngv w b o n) := by
  intro j v hj
  unfold rngv at hj
  rw [List.getElem?_map] at hj
  by_cases hjn : j < n
  · rw [List.getElem?_range hjn] at hj
    simp at hj
    have := h j hjn
    cases hc : w.cell? ⟨b, o + j, none⟩ with
    | none => rw [hc] at this; cases this
    | some u => rw [hc] at hj; simp at hj; rw [hj]
  · rw [List.getElem?_eq_none (by simp; omega)] at hj
    cases hj
theorem rngv_length (w : World) (b o n : Nat) : (rngv w b o n).length = n := by simp [rngv]

/-- a load of a whole time, kept from the walk's own way of loading -/
def ldM (t : TypeId) (p : Value) : Sem Value := Instr.loadAt t p
theorem ldTime (p : Value) : Instr.loadAt 186 p = ldM 186 p := rfl
theorem stTime (p v : Value) : Instr.storeAt 186 p v = stM 186 p v := rfl
theorem run_ldTime (w : World) (b o : Nat) (ht : w.there b o 6) : (ldM 186 (.pointer (some ⟨b, o, none⟩))).run Tryz.prog w = .ok (.agg (rngv w b o 6).toArray) w :=
  run_loadAt_mid w b o _ (rngv w b o 6) _ (rngv_range (fun j hj => (ht j hj).1)) Tryz.underlying186 rfl (by rw [rngv_length]; exact size_Time)
theorem run_stTime (w : World) (b o : Nat) (l : List Int) (ht : w.there b o 6) (hl : l.length = 6) : (stM 186 (.pointer (some ⟨b, o, none⟩)) (.agg (ivs l).toArray)).run Tryz.prog w = .ok () (w.setCells b o (ivs l)) := by
  have hl' : (ivs l).toArray.size = 6 := by simp [ivs_length, hl]
  have := run_storeAt_mid (P := Tryz.prog) w b o 186 (ivs l).toArray (by rw [hl']; exact ht) (by rw [hl']; exact size_Time) (by
    rw [Array.all_eq_true_iff_forall_mem]
    intro v hv
    simp [ivs] at hv
    obtain ⟨x, _, rfl⟩ := hv
    rfl)
  simpa [stM] using this

/-- the time of one replica alone -/
def one (r : Nat) (x : Int) : List Int := (List.replicate 6 0).set r x
theorem one_length (r : Nat) (x : Int) : (one r x).length = 6 := by simp [one]

/-- n cells of a block -/
theorem there_new (w : World) (cs : Array Value) (t : TypeId) (n : Nat) (h : cs.size = n) : (w.alloc (.cells cs t)).there w.heap.size 0 n := by
  intro j hj
  constructor
  · simp only [World.cell?, heap_alloc_new]; simp; omega
  · simp only [World.frozen?, heap_alloc_new]; simp
theorem range_new (w : World) (cs : Array Value) (t : TypeId) : (w.alloc (.cells cs t)).rangeAt w.heap.size 0 cs.toList := by
  intro j v hj
  simp only [World.cell?, heap_alloc_new]
  simpa using hj

set_option maxHeartbeats 400000 in
theorem Alone_0 (x : Int) (w : World) :
    Calls Tryz.prog 111 #[.agg #[.int .i64 0, .int .i64 x]] w fun e w' => e = .returned (.agg #[.int .i64 x, .int .i64 0, .int .i64 0, .int .i64 0, .int .i64 0, .int .i64 0]) ∧ Below w.heap.size w w' := by
  go_enter Tryz.func111, Tryz.ntmps111
  go_wp2
  refine bodyPost_ret (v := .agg #[.int .i64 x, .int .i64 0, .int .i64 0, .int .i64 0, .int .i64 0, .int .i64 0]) (by simp [results, Tryz.results111, go_sem]) rfl ⟨rfl, ?_⟩
  repeat' (first | exact Below.refl _ _ | refine Below.setCell ?_ (by simp <;> omega) _ | refine Below.alloc ?_ (by simp <;> omega) _ | refine Below.drew ?_)
set_option maxHeartbeats 400000 in
theorem Alone_1 (x : Int) (w : World) :
    Calls Tryz.prog 111 #[.agg #[.int .i64 1, .int .i64 x]] w fun e w' => e = .returned (.agg #[.int .i64 0, .int .i64 x, .int .i64 0, .int .i64 0, .int .i64 0, .int .i64 0]) ∧ Below w.heap.size w w' := by
  go_enter Tryz.func111, Tryz.ntmps111
  go_wp2
  refine bodyPost_ret (v := .agg #[.int .i64 0, .int .i64 x, .int .i64 0, .int .i64 0, .int .i64 0, .int .i64 0]) (by simp [results, Tryz.results111, go_sem]) rfl ⟨rfl, ?_⟩
  repeat' (first | exact Below.refl _ _ | refine Below.setCell ?_ (by simp <;> omega) _ | refine Below.alloc ?_ (by simp <;> omega) _ | refine Below.drew ?_)
set_option maxHeartbeats 400000 in
theorem Alone_2 (x : Int) (w : World) :
    Calls Tryz.prog 111 #[.agg #[.int .i64 2, .int .i64 x]] w fun e w' => e = .returned (.agg #[.int .i64 0, .int .i64 0, .int .i64 x, .int .i64 0, .int .i64 0, .int .i64 0]) ∧ Below w.heap.size w w' := by
  go_enter Tryz.func111, Tryz.ntmps111
  go_wp2
  refine bodyPost_ret (v := .agg #[.int .i64 0, .int .i64 0, .int .i64 x, .int .i64 0, .int .i64 0, .int .i64 0]) (by simp [results, Tryz.results111, go_sem]) rfl ⟨rfl, ?_⟩
  repeat' (first | exact Below.refl _ _ | refine Below.setCell ?_ (by simp <;> omega) _ | refine Below.alloc ?_ (by simp <;> omega) _ | refine Below.drew ?_)
set_option maxHeartbeats 400000 in
theorem Alone_3 (x : Int) (w : World) :
    Calls Tryz.prog 111 #[.agg #[.int .i64 3, .int .i64 x]] w fun e w' => e = .returned (.agg #[.int .i64 0, .int .i64 0, .int .i64 0, .int .i64 x, .int .i64 0, .int .i64 0]) ∧ Below w.heap.size w w' := by
  go_enter Tryz.func111, Tryz.ntmps111
  go_wp2
  refine bodyPost_ret (v := .agg #[.int .i64 0, .int .i64 0, .int .i64 0, .int .i64 x, .int .i64 0, .int .i64 0]) (by simp [results, Tryz.results111, go_sem]) rfl ⟨rfl, ?_⟩
  repeat' (first | exact Below.refl _ _ | refine Below.setCell ?_ (by simp <;> omega) _ | refine Below.alloc ?_ (by simp <;> omega) _ | refine Below.drew ?_)
set_option maxHeartbeats 400000 in
theorem Alone_4 (x : Int) (w : World) :
    Calls Tryz.prog 111 #[.agg #[.int .i64 4, .int .i64 x]] w fun e w' => e = .returned (.agg #[.int .i64 0, .int .i64 0, .int .i64 0, .int .i64 0, .int .i64 x, .int .i64 0]) ∧ Below w.heap.size w w' := by
  go_enter Tryz.func111, Tryz.ntmps111
  go_wp2
  refine bodyPost_ret (v := .agg #[.int .i64 0, .int .i64 0, .int .i64 0, .int .i64 0, .int .i64 x, .int .i64 0]) (by simp [results, Tryz.results111, go_sem]) rfl ⟨rfl, ?_⟩
  repeat' (first | exact Below.refl _ _ | refine Below.setCell ?_ (by simp <;> omega) _ | refine Below.alloc ?_ (by simp <;> omega) _ | refine Below.drew ?_)
set_option maxHeartbeats 400000 in
theorem Alone_5 (x : Int) (w : World) :
    Calls Tryz.prog 111 #[.agg #[.int .i64 5, .int .i64 x]] w fun e w' => e = .returned (.agg #[.int .i64 0, .int .i64 0, .int .i64 0, .int .i64 0, .int .i64 0, .int .i64 x]) ∧ Below w.heap.size w w' := by
  go_enter Tryz.func111, Tryz.ntmps111
  go_wp2
  refine bodyPost_ret (v := .agg #[.int .i64 0, .int .i64 0, .int .i64 0, .int .i64 0, .int .i64 0, .int .i64 x]) (by simp [results, Tryz.results111, go_sem]) rfl ⟨rfl, ?_⟩
  repeat' (first | exact Below.refl _ _ | refine Below.setCell ?_ (by simp <;> omega) _ | refine Below.alloc ?_ (by simp <;> omega) _ | refine Below.drew ?_)

theorem Alone_any (r : Nat) (x : Int) (w : World) (hr : r < 6) :
    Calls Tryz.prog 111 #[.agg #[.int .i64 r, .int .i64 x]] w fun e w' => e = .returned (.agg (ivs (one r x)).toArray) ∧ Below w.heap.size w w' := by
  match r, hr with
  | 0, _ => exact Alone_0 x w
  | 1, _ => exact Alone_1 x w
  | 2, _ => exact Alone_2 x w
  | 3, _ => exact Alone_3 x w
  | 4, _ => exact Alone_4 x w
  | 5, _ => exact Alone_5 x w

end Go.Proofs.YtaelaldmibgibaaGreatDoor
