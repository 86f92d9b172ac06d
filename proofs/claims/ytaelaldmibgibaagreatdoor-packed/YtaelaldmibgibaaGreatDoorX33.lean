/- The program's beginning of a net from a text's first line. -/
import Derived.Test.YtaelaldmibgibaaGreatDoorX14
import Derived.Test.YtaelaldmibgibaaGreatDoorX32

set_option linter.all false
set_option maxHeartbeats 1000000
set_option maxRecDepth 100000

namespace Go.Proofs.K
open Go.RowKit Go.Lib
def yua (t : Bs) : Option Nat := if hasPrefix t (bs yao) = true then (ygu (trimPrefix t (bs yao))).bind fun n => if 1 ≤ n ∧ n ≤ 6 then some n else none else none
theorem prefix_iff (t p : Bs) : hasPrefix t p = true ↔ t = p ++ trimPrefix t p := by
 unfold hasPrefix trimPrefix hasPrefix
 constructor
 ·intro h
  rw [if_pos h]
  obtain ⟨r, hr⟩ := List.isPrefixOf_iff_prefix.1 h
  rw [← hr, List.drop_left]
 ·intro h
  rw [List.isPrefixOf_iff_prefix, h]
  exact List.prefix_append _ _
theorem ypd (t : Bs) (n : Nat) : yua t = some n ↔ 1 ≤ n ∧ n ≤ 6 ∧ t = bs yao ++ decDigits n := by
 unfold yua
 constructor
 ·intro h
  split at h
  ·rename_i hp
   obtain ⟨m, h1, h2⟩ := Option.bind_eq_some_iff.1 h
   split at h2
   ·rename_i hc
    cases h2
    obtain ⟨_, h3⟩ := (yjy _ _).1 h1
    refine ⟨hc.1, hc.2, ?_⟩
    rw [← h3]
    exact (prefix_iff _ _).1 hp
   ·cases h2
  ·cases h
 ·rintro ⟨h1, h2, rfl⟩
  have hp : hasPrefix (bs yao ++ decDigits n) (bs yao) = true := by unfold hasPrefix; rw [List.isPrefixOf_iff_prefix]; exact List.prefix_append _ _
  have e : trimPrefix (bs yao ++ decDigits n) (bs yao) = decDigits n := by unfold trimPrefix; rw [if_pos hp, List.drop_left]
  rw [if_pos hp, e, ylt n (by omega)]
  simp [h1, h2]
def yly : Bs := [114, 101, 112, 108, 105, 99, 97]
def yiq (D : Drs) : Nat := (D.filter (fun y => y.2.there)).length
def yrl (n s : Nat) (t : Bs) : Option (Bs × DR) := match yak t with
 |[a, b] => if a = yly then (yby n b).bind fun c => (ygr n s (lfn c) ((ybi t).length + 1) (ybi t) ⟨#[]⟩).bind fun x => if yiq x.2 ≤ 20 then some (x.1, ⟨c, x.2⟩) else none else none
 |_ => none
structure goodD (s : Nat) (d : DR) : Prop where
 recs : ∀ y ∈ d.recs, y.2.born ∧ yfb s (lfn d.com) (ybl y.2) = true
 files : yiq d.recs ≤ 20
theorem path_pos {p : ByteArray} (h : ybm p = true) : slt ⟨#[]⟩ p = true := by
 unfold ybm at h
 simp only [Bool.and_eq_true, decide_eq_true_eq] at h
 have hs : 0 < (bs p).length := by rw [yax]; omega
 have e : (⟨#[]⟩ : ByteArray).toList = [] := by rw [ByteArray.toList_eq]
 unfold slt
 rw [e, ByteArray.toList_eq]
 show Op.bytesLess [] (bs p) = true
 cases hb : bs p with
 |nil => rw [hb] at hs; simp at hs
 |cons x l => rfl
theorem rep_line (d : DR) (R : Bs) : ydb (d.T ++ R) = ybu 32 [yly, yba d.com] ∧ ybi (d.T ++ R) = ylj d.recs ++ R ∧ yak (d.T ++ R) = [yly, yba d.com] := by
 have hno : ∀ q ∈ [yly, yba d.com], (10 : UInt8) ∉ q ∧ (32 : UInt8) ∉ q := fun q hq => by
  simp only [List.mem_cons, List.not_mem_nil, or_false] at hq
  rcases hq with rfl | rfl
  ·decide
  ·exact yvu _
 have e : d.T ++ R = ybu 32 [yly, yba d.com] ++ 10 :: (ylj d.recs ++ R) := by
  unfold DR.T
  simp [ybu, yly, ydh, bs]
 have hl := line_of (ybu 32 [yly, yba d.com]) (ylj d.recs ++ R) (sepBy_no 32 10 (by decide) _ (fun q hq => (hno q hq).1))
 rw [← e] at hl
 refine ⟨hl.1, hl.2, ?_⟩
 unfold yak
 rw [hl.1]
 exact ywp _ (by simp) (by simp) (fun q hq => (hno q hq).2)
theorem repR_iff (n s : Nat) (hn : 1 ≤ n) (h6 : n ≤ 6) (t : Bs) (R : Bs) (d : DR) (hnl : ymy t) : yrl n s t = some (R, d) ↔ t = d.T ++ R ∧ yeb R < 2 ∧ d.ok n ∧ goodD s d := by
 constructor
 ·intro h
  unfold yrl at h
  split at h
  ·rename_i a b hf
   split at h
   ·rename_i ha
    obtain ⟨c, hc, h⟩ := Option.bind_eq_some_iff.1 h
    obtain ⟨x, hx, h⟩ := Option.bind_eq_some_iff.1 h
    obtain ⟨R', D⟩ := x
    split at h
    ·rename_i h20
     cases h
     obtain ⟨c1, c2, rfl⟩ := (yhm n hn b c).1 hc
     obtain ⟨i1, i2, i3, i4, i5⟩ := (yxw n s hn h6 (lfn c) _ _ _ _ _ (yuq hnl) (by omega)).1 hx
     have hj := yht t
     have ht0 : t ≠ [] := by
      rintro rfl
      rw [hf, ha] at hj
      unfold yly at hj
      simp [ybu] at hj
      rcases yfl [] with ⟨q, _, _⟩ | ⟨q, _⟩
      ·rw [q] at hj; cases hj
      ·simp at q
     obtain ⟨q1, q2⟩ := nl_line hnl ht0
     refine ⟨?_, i2, ⟨c1, c2, i3⟩, ⟨i4, h20⟩⟩
     rw [hf, ha] at hj
     rw [← hj] at q1
     rw [q1, i1]
     unfold DR.T
     simp [ybu, yly, ydh, bs]
    ·cases h
   ·cases h
  ·cases h
 ·rintro ⟨rfl, h2, h3, h4⟩
  obtain ⟨l1, l2, l3⟩ := rep_line d R
  unfold yrl
  rw [l3]
  simp only [if_true]
  have hn2 : ymy (ylj d.recs ++ R) := by
   rw [← l2]
   exact yuq hnl
  rw [(yhm n hn _ d.com).2 ⟨h3.cl, h3.cb, rfl⟩, l2]
  simp only [Option.bind_some]
  rw [(yxw n s hn h6 (lfn d.com) _ _ _ R d.recs hn2 (by omega)).2 ⟨rfl, h2, h3.recs, h4.recs, fun y hy => path_pos (h3.recs.paths y hy)⟩]
  simp only [Option.bind_some]
  rw [if_pos h4.files]
def yla (n : Nat) : Nat → Nat → Bs → Option (Bs × List DR)
 |0, _, t => some (t, [])
 |k + 1, s, t => (yrl n s t).bind fun x => (yla n k (s + 1) x.1).map fun y => (y.1, x.2 :: y.2)
theorem blanks_reps (m : List DR) : yeb (yep m) < 2 := by
 cases m with
 |nil => simp [yep, yeb]
 |cons d m => rw [ykb]; exact blanks_rep d _
theorem yxy (n : Nat) (hn : 1 ≤ n) (h6 : n ≤ 6) : ∀ (k s : Nat) (t : Bs) (m : List DR), ymy t → (yla n k s t = some ([], m) ↔ m.length = k ∧ t = yep m ∧ ∀ (i : Nat) d, m[i]? = some d → d.ok n ∧ goodD (s + i) d) := by
 intro k
 induction k with
 |zero =>
  intro s t m _
  unfold yla
  constructor
  ·intro h
   cases h
   exact ⟨rfl, rfl, by simp⟩
  ·rintro ⟨h1, h2, _⟩
   have : m = [] := List.length_eq_zero_iff.1 h1
   subst this
   rw [h2]
   rfl
 |succ k ih =>
  intro s t m hnl
  unfold yla
  constructor
  ·intro h
   obtain ⟨x, hx, h⟩ := Option.bind_eq_some_iff.1 h
   obtain ⟨y, hy, h⟩ := Option.map_eq_some_iff.1 h
   obtain ⟨R, d⟩ := x
   obtain ⟨R', m'⟩ := y
   simp only [Prod.mk.injEq] at h
   obtain ⟨rfl, rfl⟩ := h
   obtain ⟨a1, a2, a3, a4⟩ := (repR_iff n s hn h6 t R d hnl).1 hx
   obtain ⟨b1, b2, b3⟩ := (ih (s + 1) R m' (ypk (a := d.T) (by rw [← a1]; exact hnl))).1 hy
   refine ⟨by simp [b1], by rw [a1, b2, ykb], fun i e he => ?_⟩
   cases i with
   |zero => simp at he; subst he; exact ⟨a3, a4⟩
   |succ i =>
    have := b3 i e (by simpa using he)
    rw [show s + 1 + i = s + (i + 1) by omega] at this
    exact this
  ·rintro ⟨h1, rfl, h3⟩
   cases m with
   |nil => simp at h1
   |cons d m =>
    rw [ykb] at hnl ⊢
    have hd := h3 0 d (by simp)
    rw [(repR_iff n s hn h6 _ (yep m) d hnl).2 ⟨rfl, blanks_reps m, hd.1, hd.2⟩]
    simp only [Option.bind_some]
    rw [(ih (s + 1) (yep m) m (ypk hnl)).2 ⟨by simpa using h1, rfl, fun i e he => by
     have := h3 (i + 1) e (by simpa using he)
     rw [show s + (i + 1) = s + 1 + i by omega] at this
     exact this⟩]
    rfl
def ylf (m : List DR) (j : Nat) : Int := match m[j]? with
 |some d => lfn d.com j
 |none => 0
def inB (C : Nat → Int) (d : DR) : Bool := d.recs.all (fun y => leB (lfn y.2.known) C) && leB (lfn d.com) C
def yvy (t : ByteArray) : Option (List DR) := (yin t).bind fun b => (yua (ydb b)).bind fun n => (yla n n 0 (ybi b)).bind fun x => if x.1 = [] ∧ x.2.all (inB (ylf x.2)) = true then some x.2 else none
structure goodN (m : List DR) : Prop where
 reps : ∀ (i : Nat) d, m[i]? = some d → goodD i d
 ins : m.all (inB (ylf m)) = true
theorem body_nl (m : List DR) : ymy (ydz m) := by
 have hT : ∀ d : DS, ∃ a, d.T = a ++ [10] := fun d => by
  have := flds_T [] d
  exact ⟨ybu 32 ([] :: d.flds), by simpa using this⟩
 have h1 : ∀ D : Drs, ymy (ylj D) := fun D => by
  induction D with
  |nil => exact .inl rfl
  |cons y D ih =>
   obtain ⟨p, d⟩ := y
   rw [ylk]
   obtain ⟨a, ha⟩ := hT d
   rcases ih with h | ⟨b, h⟩
   ·rw [h, ha]; exact .inr ⟨bs p ++ a, by simp⟩
   ·rw [h]; exact .inr ⟨bs p ++ (d.T ++ b), by simp⟩
 have h2 : ∀ l : List DR, ymy (yep l) := fun l => by
  induction l with
  |nil => exact .inl rfl
  |cons d l ih =>
   rw [ykb]
   rcases ih with h | ⟨b, h⟩
   ·rw [h]
    unfold DR.T
    rcases h1 d.recs with h | ⟨b, h⟩
    ·rw [h]; exact .inr ⟨bs ydh ++ yba d.com, by simp⟩
    ·rw [h]; exact .inr ⟨bs ydh ++ (yba d.com ++ (10 :: b)), by simp⟩
   ·rw [h]; exact .inr ⟨d.T ++ b, by simp⟩
 unfold ydz
 rcases h2 m with h | ⟨b, h⟩
 ·rw [h]; exact .inr ⟨bs yao ++ decDigits m.length, by simp⟩
 ·rw [h]; exact .inr ⟨bs yao ++ (decDigits m.length ++ (10 :: b)), by simp⟩
theorem head_no (n : Nat) : (10 : UInt8) ∉ bs yao ++ decDigits n := fun h => by
 rcases List.mem_append.1 h with h | h
 ·exact absurd h (by decide)
 ·exact ynm n 10 (by decide) h
theorem netR_iff (t : ByteArray) (m : List DR) : yvy t = some m ↔ okNet m ∧ bs t = yga m ∧ goodN m := by
 unfold yvy
 constructor
 ·intro h
  obtain ⟨b, hb, h⟩ := Option.bind_eq_some_iff.1 h
  obtain ⟨n, hn, h⟩ := Option.bind_eq_some_iff.1 h
  obtain ⟨x, hx, h⟩ := Option.bind_eq_some_iff.1 h
  obtain ⟨R, m'⟩ := x
  split at h
  ·rename_i hc
   cases h
   obtain ⟨rfl, hc⟩ := hc
   obtain ⟨u1, u2⟩ := (ylc t b).1 hb
   obtain ⟨n1, n6, hl⟩ := (ypd _ n).1 hn
   have hb0 : b ≠ [] := by
    rintro rfl
    rcases yfl [] with ⟨q, _, _⟩ | ⟨q, _⟩
    ·rw [q] at hl
     have := congrArg List.length hl
     simp [yao, bs] at this
    ·simp at q
   obtain ⟨r1, r2, r3⟩ := (yxy n n1 n6 n 0 (ybi b) _ (yuq u2)).1 hx
   simp only at r1 r2 r3 hc
   obtain ⟨q1, q2⟩ := nl_line u2 hb0
   have eb : b = ydz m' := by
    rw [q1, hl, r2, ← r1]
    unfold ydz
    simp
   refine ⟨⟨by simp only; omega, by simp only; omega, fun d hd => ?_⟩, ?_, ⟨fun i d hi => by have := (r3 i d hi).2; rw [Nat.zero_add] at this; exact this, hc⟩⟩
   ·obtain ⟨i, hi⟩ := List.getElem?_of_mem hd
    simp only
    rw [r1]
    exact (r3 i d hi).1
   ·unfold yga
    rw [← eb]
    exact u1
  ·cases h
 ·rintro ⟨h1, h2, h3⟩
  rw [(ylc t (ydz m)).2 ⟨h2, body_nl m⟩]
  simp only [Option.bind_some]
  have hl := line_of (bs yao ++ decDigits m.length) (yep m) (head_no _)
  have e : bs yao ++ decDigits m.length ++ 10 :: yep m = ydz m := by unfold ydz; simp
  rw [e] at hl
  rw [hl.1, hl.2, (ypd _ m.length).2 ⟨h1.n1, h1.n6, rfl⟩]
  simp only [Option.bind_some]
  have hnl : ymy (yep m) := ypk (a := bs yao ++ decDigits m.length ++ [10]) (by have := body_nl m; rw [← e] at this; simpa using this)
  rw [(yxy m.length h1.n1 h1.n6 m.length 0 (yep m) m hnl).2 ⟨rfl, rfl, fun i d hi => ⟨h1.oks d (List.mem_of_getElem? hi), by rw [Nat.zero_add]; exact h3.reps i d hi⟩⟩]
  simp only [Option.bind_some]
  rw [if_pos ⟨trivial, h3.ins⟩]
theorem yyi (c : UInt8) : ∀ l : List Bs, l ≠ [] → ybu c l ++ [c] = (l.map (fun x => x ++ [c])).flatten
 |[], h => absurd rfl h
 |[x], _ => by simp [ybu]
 |x :: y :: l, _ => by
  rw [ydl, List.append_assoc, List.cons_append, yyi c (y :: l) (by simp)]
  simp
def recL (y : ByteArray × DS) : Bs := bs y.1 ++ 32 :: (yba y.2.known ++ 32 :: (if y.2.there = true then decDigits y.2.by_ ++ 58 :: decDigits y.2.num ++ 32 :: (yba y.2.chg ++ 32 :: 61 :: yir y.2.text) else [45]))
def ybz (d : DR) : List Bs := (bs ydh ++ yba d.com) :: d.recs.map recL
def ydw (m : List DR) : List Bs := (bs yao ++ decDigits m.length) :: (m.map ybz).flatten
theorem recL_T (y : ByteArray × DS) : recL y ++ [10] = bs y.1 ++ y.2.T := by
 unfold recL DS.T DS.tail
 cases y.2.there <;> simp
theorem linesD_T (d : DR) : ((ybz d).map (fun x => x ++ [10])).flatten = d.T := by
 unfold ybz DR.T ylj
 rw [List.map_cons, List.map_map, List.flatten_cons]
 have : d.recs.map ((fun x => x ++ [10]) ∘ recL) = d.recs.map (fun r => bs r.1 ++ r.2.T) := List.map_congr_left (fun y _ => recL_T y)
 rw [this]
 simp
theorem linesN_T (m : List DR) : ybu 10 (ydw m) ++ [10] = ydz m := by
 rw [yyi 10 _ (by simp [ydw])]
 unfold ydw ydz yep
 rw [List.map_cons, List.flatten_cons, List.map_flatten, List.map_map]
 have : ∀ l : List DR, (l.map (List.map (fun x => x ++ [10]) ∘ ybz)).flatten.flatten = (l.map DR.T).flatten := fun l => by
  induction l with
  |nil => rfl
  |cons d l ih => simp only [List.map_cons, List.flatten_cons, List.flatten_append, Function.comp, linesD_T, ih]
 rw [this]
 simp
theorem yof (k : Nat) (hk : k ≤ 1000000000) (w : World) (hg : yez w) :
  Calls Tryz.prog 72 #[.int .i64 k] w fun e w' => e = .returned (.string (yaf (decDigits k))) ∧ Below w.heap.size w w' := by
 refine (Tryz.strconv_Itoa _ (by omega) (by omega) w hg.tab).mono ?_
 rintro e w' ⟨rfl, q, os, rfl⟩
 refine ⟨?_, ymu _ q os⟩
 unfold Lib.itoa
 rw [if_neg (by omega), Int.toNat_natCast]
 rfl
theorem join_sep (c : UInt8) : ∀ ps : List Bs, Lib.join ps [c] = ybu c ps
 |[] => rfl
 |x :: l => by
  rw [Lib.join_cons]
  rfl
theorem join_row (c : UInt8) (base : Nat) (v : Value) (l : List ByteArray) (w : World) (h : w.ownsRow base 9 1 v l.length (svs l)) (hl : l.length ≤ 100000000) (hs : (ybu c (l.map bs)).length ≤ 10000000000) :
  Calls Tryz.prog 38 #[v, .string ⟨#[c]⟩] w fun e w' => e = .returned (.string (yaf (ybu c (l.map bs)))) ∧ Below w.heap.size w w' := by
 rcases h.2 with ⟨rfl, h0⟩ | ⟨g, cap, cur, rfl, hbase, hb, h1, h2, h3, h4⟩
 ·have : l = [] := List.length_eq_zero_iff.1 h0
  subst this
  refine (Tryz.strings_Join_none none 0 ⟨#[c]⟩ w).mono ?_
  rintro e w' ⟨rfl, rfl⟩
  exact ⟨rfl, Below.refl _ _⟩
 ·have hc : ∀ (j : Nat) x, l[j]? = some x → w.cell? ⟨g, 0 + j, none⟩ = some (.string x) := fun j x hx => by
   rw [Nat.zero_add]
   have hj := (List.getElem?_eq_some_iff.1 hx).1
   rw [World.ownsRow.cellAt h j (by omega)]
   unfold svs
   rw [List.getElem?_map, hx]
   rfl
  have e : Lib.join (l.map (·.data.toList)) (⟨#[c]⟩ : ByteArray).data.toList = ybu c (l.map bs) := join_sep c _
  refine (Tryz.strings_Join g 0 cap l ⟨#[c]⟩ w hc (Array.getElem?_eq_some_iff.1 hb).1 (by omega) h1 (by rw [e]; omega)).mono ?_
  rintro e' w' ⟨rfl, hb'⟩
  rw [e]
  exact ⟨rfl, hb'⟩
structure TT (w wr : World) (t : Nat → Int) (v : Value) (l : List ByteArray) : Prop where
 bel : Below w.heap.size w wr
 tc : ∀ j, j < 6 → wr.cell? ⟨w.heap.size, j, none⟩ = some (.int .i64 (t j))
 own : wr.ownsRow (w.heap.size + 1) 9 1 v l.length (svs l)
 lt : w.heap.size < wr.heap.size
theorem TT.step {w wr w2 w3 : World} {t : Nat → Int} {v : Value} {l : List ByteArray} (h : TT w wr t v l) (hb : Below wr.heap.size wr w2) (o : Obj) (y : ByteArray) {g cap : Nat}
  (ho : w3.ownsRow (w.heap.size + 1) 9 1 (.slice (some ⟨g, 0, none⟩) (l.length + 1) cap) (l.length + 1) (svs l ++ [.string y])) (hg : (w2.alloc o).grownBy w3 v.ownBlock) : TT w w3 t (.slice (some ⟨g, 0, none⟩) (l.length + 1) cap) (l ++ [y]) := by
 have hz := hb.size
 have hlt := h.lt
 have hne : ∀ k, v.ownBlock = some k → w.heap.size + 1 ≤ k := fun k hk => (World.ownsRow.lt h.own k hk).1
 refine ⟨?_, fun j hj => ?_, ?_, ?_⟩
 ·exact yfx ((h.bel.trans (hb.mono h.bel.size)).alloc (by omega) _) hg (fun k hk => by have := hne k hk; omega)
 ·have hbk := hg.block w.heap.size (by simp; omega) (fun e => by have := hne _ e.symm; omega)
  rw [World.cell?_of_block (w := w2.alloc o) hbk, World.cell?_alloc_old _ _ _ (by simp only; omega), hb.cell (by simp only; omega)]
  exact h.tc j hj
 ·rw [List.length_append, yke]
  exact ho
 ·have := hg.size
  simp at this
  omega
theorem yiw (c : List Nat) (n : Nat) (hn : c.length = n) (h1 : 1 ≤ n) (h6 : n ≤ 6) (hc : ∀ v ∈ c, v ≤ 1000000000) (w : World) (hg : yez w) :
  Calls Tryz.prog 121 #[.agg #[.int .i64 (lfn c 0), .int .i64 (lfn c 1), .int .i64 (lfn c 2), .int .i64 (lfn c 3), .int .i64 (lfn c 4), .int .i64 (lfn c 5)], .int .i64 n] w fun e w' => e = .returned (.string (yaf (yba c))) ∧ Below w.heap.size w w' := by
 have T0 : Hid (TT w (w.alloc (.cells #[.int .i64 (lfn c 0), .int .i64 (lfn c 1), .int .i64 (lfn c 2), .int .i64 (lfn c 3), .int .i64 (lfn c 4), .int .i64 (lfn c 5)] 186)) (lfn c) (.slice none 0 0) []) := ⟨(Below.refl _ _).alloc (Nat.le_refl _) _, fun j hj => ynl w (lfn c) _ j hj, World.ownsRow_nil _ _ _ _, by simp⟩
 have GL : Hid (∀ wr, Below w.heap.size w wr → yez wr) := fun wr hb => hg.below hb
 have IT : Hid (∀ i, i < n → ∀ wr, yez wr → Calls Tryz.prog 72 #[.int .i64 (lfn c i)] wr fun e w' => e = .returned (.string (yaf (decDigits (c.getD i 0)))) ∧ Below wr.heap.size wr w') := fun i hi wr hw => by
  refine yof (c.getD i 0) ?_ wr hw
  rw [List.getD_eq_getElem?_getD, List.getElem?_eq_getElem (by omega)]
  exact hc _ (List.getElem_mem _)
 have TK : Hid (∀ i, i < n → (c.take i).map (fun k => yaf (decDigits k)) ++ [yaf (decDigits (c.getD i 0))] = (c.take (i + 1)).map (fun k => yaf (decDigits k))) := fun i hi => yum (fun k => yaf (decDigits k)) c i 0 (by omega)
 have LN : Hid (∀ i, i ≤ n → ((c.take i).map (fun k => yaf (decDigits k))).length = i) := fun i hi => by rw [List.length_map, List.length_take]; omega
 have JN : Hid (∀ (W : World) (v : Value), TT w W (lfn c) v ((c.take n).map (fun k => yaf (decDigits k))) → Calls Tryz.prog 38 #[v, .string ⟨#[44]⟩] W fun e w' => e = .returned (.string (yaf (yba c))) ∧ Below W.heap.size W w') := fun W v hT => by
  have e : ybu 44 (((c.take n).map (fun k => yaf (decDigits k))).map bs) = yba c := by
   unfold yba
   rw [← hn, List.take_length, List.map_map]
   congr 1
  have hl : (yba c).length ≤ 10000000000 := by
   have : ∀ l : List Nat, (∀ v ∈ l, v ≤ 1000000000) → (yba l).length ≤ 12 * l.length := fun l => by
    induction l with
    |nil => intro _; simp [yba, ybu]
    |cons a l ih =>
     intro hl
     have h1 := ih (fun v hv => hl v (List.mem_cons_of_mem _ hv))
     have h2 := yda 10 a (Nat.lt_of_le_of_lt (hl a (by simp)) (by decide))
     cases l with
     |nil => simp [yba, ybu]; omega
     |cons b l =>
      unfold yba at h1 ⊢
      rw [List.map_cons, List.map_cons, ydl]
      rw [List.map_cons] at h1
      simp at h1 ⊢
      omega
   have := this c hc
   omega
  have := join_row 44 (w.heap.size + 1) v _ W hT.own (by rw [LN.out n (Nat.le_refl _)]; omega) (by rw [e]; exact hl)
  rw [e] at this
  exact this
 clear hg
 generalize ht : yba c = tt at *
 clear ht
 have hn6 : (n : Int) ≤ 6 := by omega
 have hn0 : (0 : Int) ≤ (n : Int) := by omega
 go_enter Tryz.func121, Tryz.ntmps121
 go_wp2
 go_loopw [5, 11] (fun v iv wr => ∃ i : Nat, i ≤ n ∧ iv = .int .i64 i ∧ Hid (TT w wr (lfn c) v ((c.take i).map (fun k => yaf (decDigits k))))) (fun _ iv _ => n - (Go.RowKit.intOf iv).toNat)
 case atStart => exact ⟨0, Nat.zero_le _, rfl, T0⟩
 case round =>
  clear T0
  obtain ⟨i, hi, rfl, hT⟩ := hrel
  by_cases hlt : i < n
  ·have ti := hT.out.tc i (by omega)
   have hll := LN.out i hi
   obtain ⟨dd, hdd⟩ : ∃ dd, dd = yaf (decDigits (c.getD i 0)) := ⟨_, rfl⟩
   have IT' : Hid (∀ wr, yez wr → Calls Tryz.prog 72 #[.int .i64 (lfn c i)] wr fun e w' => e = .returned (.string dd) ∧ Below wr.heap.size wr w') := by rw [hdd]; exact IT.out i hlt
   have TK' := TK.out i hlt
   rw [← hdd] at TK'
   have TK2 := yab TK'
   clear TK' hdd
   go_wp2_with (first
    |(go_at_call 72; refine (IT'.out _ (GL.out _ hT.out.bel)).mono ?_; rintro e w2 ⟨rfl, hb2⟩; have HB2 := yab hb2; clear hb2; have hrow2 := yab (yas (w' := w2) hT.out.own (fun k e => HB2.out.block k (World.ownsRow.lt hT.out.own k e).2)))
    |(at_builtin; refine app_str _ rfl (.tmp 15) (.tmp 18) rfl (w.heap.size + 1) _ _ _ rfl (hrow2.out.alloc _) w2.heap.size dd rfl (by simp) (by omega) (by have := HB2.out.size; have := hT.out.lt; simp; omega) ?_; intro g2 c2 w3 ho3 hgr3 hat3 hl3))
   have T3 := yab (hT.out.step HB2.out _ _ ho3 hgr3)
   clear ho3 hgr3 hat3 hl3
   rw [TK2.out, hll] at T3
   go_roundw
   case rel => exact ⟨i + 1, by omega, by go_num, T3⟩
   case measure => simp [Go.RowKit.intOf]; omega
  ·have ei : i = n := by omega
   subst ei
   go_wp2_with (go_at_call 38; refine (JN.out _ _ hT.out).mono ?_; rintro e w2 ⟨rfl, hb2⟩)
   go_ret
   exact ⟨rfl, hT.out.bel.trans (hb2.mono hT.out.bel.size)⟩
structure EvC (w V : World) (x y : Int) : Prop where
 c0 : V.cell? ⟨w.heap.size, 0, none⟩ = some (.int .i64 x)
 c1 : V.cell? ⟨w.heap.size, 1, none⟩ = some (.int .i64 y)
 bel : Below w.heap.size w V
 lt : w.heap.size < V.heap.size
theorem EvC.more {w V V' : World} {x y : Int} (h : EvC w V x y) (hb : Below V.heap.size V V') : EvC w V' x y :=
 ⟨(hb.cell (p := ⟨w.heap.size, 0, none⟩) h.lt).trans h.c0, (hb.cell (p := ⟨w.heap.size, 1, none⟩) h.lt).trans h.c1, h.bel.trans (hb.mono h.bel.size), Nat.lt_of_lt_of_le h.lt hb.size⟩
theorem ytj (r k : Nat) (hr : r ≤ 1000000000) (hk : k ≤ 1000000000) (w : World) (hg : yez w) :
  Calls Tryz.prog 178 #[.agg #[.int .i64 r, .int .i64 k]] w fun e w' => e = .returned (.string (yaf (decDigits r ++ 58 :: decDigits k))) ∧ Below w.heap.size w w' := by
 have E0 : Hid (EvC w ((w.alloc (.cells #[.int .i64 r, .int .i64 k] 191)).drew) r k) := ⟨(by simp only [World.cell?]; rw [show ((w.alloc (.cells #[.int .i64 r, .int .i64 k] 191)).drew).heap = (w.alloc (.cells #[.int .i64 r, .int .i64 k] 191)).heap from rfl, heap_alloc_new]; rfl), (by simp only [World.cell?]; rw [show ((w.alloc (.cells #[.int .i64 r, .int .i64 k] 191)).drew).heap = (w.alloc (.cells #[.int .i64 r, .int .i64 k] 191)).heap from rfl, heap_alloc_new]; rfl), ((Below.refl _ _).alloc (Nat.le_refl _) _).drew, by simp⟩
 have I1 : Hid (∀ W, EvC w W r k → Calls Tryz.prog 72 #[.int .i64 r] W fun e w' => e = .returned (.string (yaf (decDigits r))) ∧ EvC w w' r k) := fun W hW => (yof r hr W (hg.below hW.bel)).mono fun e w' h => ⟨h.1, hW.more h.2⟩
 have I2 : Hid (∀ W, EvC w W r k → Calls Tryz.prog 72 #[.int .i64 k] W fun e w' => e = .returned (.string (yaf (decDigits k))) ∧ EvC w w' r k) := fun W hW => (yof k hk W (hg.below hW.bel)).mono fun e w' h => ⟨h.1, hW.more h.2⟩
 have HL : Hid (yaf (decDigits r ++ 58 :: decDigits k) = yaf (decDigits r) ++ (⟨#[58]⟩ : ByteArray) ++ yaf (decDigits k)) := by
  unfold Hid
  apply ygw
  rw [yah, ybv, ybv, yah, yah, List.append_assoc]
  rfl
 rw [HL.out]
 have s1 : (yaf (decDigits r)).size ≤ 1000 := by rw [yal]; have := yda 10 r (Nat.lt_of_le_of_lt hr (by decide)); omega
 have s2 : (yaf (decDigits k)).size ≤ 1000 := by rw [yal]; have := yda 10 k (Nat.lt_of_le_of_lt hk (by decide)); omega
 generalize yaf (decDigits r) = dr at *
 generalize yaf (decDigits k) = dk at *
 generalize (r : Int) = ri at *
 generalize (k : Int) = ki at *
 have n1 : ¬ 9223372036854775807 < dr.size + 1 := by omega
 have n2 : ¬ 9223372036854775807 < dr.size + 1 + dk.size := by omega
 have n3 : ¬ 9223372036854775807 < (dr ++ (⟨#[58]⟩ : ByteArray)).size + dk.size := by
  rw [ByteArray.size_append]
  show ¬ 9223372036854775807 < dr.size + 1 + dk.size
  omega
 clear hg HL
 go_enter Tryz.func178, Tryz.ntmps178
 go_wp2_with fail
 go_region_law (first
  |(go_simp; go_at_call_of 72 (Value.int .i64 ri); refine (I1.out _ (by first | exact E2.out | exact E0.out)).mono ?_; rintro e w1 ⟨rfl, hE⟩; have E2 := yab hE; have a0 := hE.c0; have a1 := hE.c1; clear hE; dsimp only)
  |(go_simp; go_at_call_of 72 (Value.int .i64 ki); refine (I2.out _ (by first | exact E2.out | exact E0.out)).mono ?_; rintro e w1 ⟨rfl, hE⟩; have E2 := yab hE; have a0 := hE.c0; have a1 := hE.c1; clear hE; dsimp only))
 all_goals
  go_wp2
  go_ret
  exact ⟨rfl, E2.out.bel⟩
attribute [local go_sem ↓] eqTime
attribute [local go_sem] yvi
structure W2 (w V : World) (a b : Nat → Int) : Prop where
 a : ∀ j, j < 6 → V.cell? ⟨w.heap.size, j, none⟩ = some (.int .i64 (a j))
 b : ∀ j, j < 6 → V.cell? ⟨w.heap.size + 1, j, none⟩ = some (.int .i64 (b j))
 bel : Below w.heap.size w V
 size : w.heap.size + 2 ≤ V.heap.size
theorem W2.made (w : World) (a b : Nat → Int) : W2 w ((w.alloc (.cells #[.int .i64 (a 0), .int .i64 (a 1), .int .i64 (a 2), .int .i64 (a 3), .int .i64 (a 4), .int .i64 (a 5)] 186)).alloc (.cells #[.int .i64 (b 0), .int .i64 (b 1), .int .i64 (b 2), .int .i64 (b 3), .int .i64 (b 4), .int .i64 (b 5)] 186)) a b := by
 have hz : (w.alloc (.cells #[.int .i64 (a 0), .int .i64 (a 1), .int .i64 (a 2), .int .i64 (a 3), .int .i64 (a 4), .int .i64 (a 5)] 186)).heap.size = w.heap.size + 1 := by simp
 refine ⟨fun j hj => ?_, fun j hj => ?_, ((Below.refl _ _).alloc (Nat.le_refl _) _).alloc (by simp) _, by simp⟩
 ·rw [World.cell?_alloc_old _ _ _ (by simp)]
  exact ynl w a _ j hj
 ·rw [← hz]
  exact ynl _ b _ j hj
theorem W2.more {w V V' : World} {a b : Nat → Int} (h : W2 w V a b) (hb : Below V.heap.size V V') : W2 w V' a b :=
 ⟨fun j hj => (hb.cell (p := ⟨w.heap.size, j, none⟩) (by have := h.size; simp only; omega)).trans (h.a j hj), fun j hj => (hb.cell (p := ⟨w.heap.size + 1, j, none⟩) (by have := h.size; simp only; omega)).trans (h.b j hj), h.bel.trans (hb.mono h.bel.size), Nat.le_trans h.size hb.size⟩
theorem yrr (a b : Nat → Int) (w : World) :
  Calls Tryz.prog 198 #[.agg #[.int .i64 (a 0), .int .i64 (a 1), .int .i64 (a 2), .int .i64 (a 3), .int .i64 (a 4), .int .i64 (a 5)], .agg #[.int .i64 (b 0), .int .i64 (b 1), .int .i64 (b 2), .int .i64 (b 3), .int .i64 (b 4), .int .i64 (b 5)]] w fun e w' => e = .returned (.bool (leB a b)) ∧ Below w.heap.size w w' := by
 have GB := yab (fun V ty => yqx V a b ty)
 have LE : Hid (leB a b = eqT (yac a b) b) := rfl
 rw [LE.out]
 generalize yac a b = c at *
 clear LE
 have S0 := yab (W2.made w a b)
 go_enter Tryz.func198, Tryz.ntmps198
 go_wp2_with fail
 generalize (w.alloc (.cells #[.int .i64 (a 0), .int .i64 (a 1), .int .i64 (a 2), .int .i64 (a 3), .int .i64 (a 4), .int .i64 (a 5)] 186)).alloc (.cells #[.int .i64 (b 0), .int .i64 (b 1), .int .i64 (b 2), .int .i64 (b 3), .int .i64 (b 4), .int .i64 (b 5)] 186) = V at *
 have a0 := S0.out.a 0 (by omega)
 have a1 := S0.out.a 1 (by omega)
 have a2 := S0.out.a 2 (by omega)
 have a3 := S0.out.a 3 (by omega)
 have a4 := S0.out.a 4 (by omega)
 have a5 := S0.out.a 5 (by omega)
 have b0 := S0.out.b 0 (by omega)
 have b1 := S0.out.b 1 (by omega)
 have b2 := S0.out.b 2 (by omega)
 have b3 := S0.out.b 3 (by omega)
 have b4 := S0.out.b 4 (by omega)
 have b5 := S0.out.b 5 (by omega)
 have hz := S0.out.size
 have hn0 : w.heap.size ≠ V.heap.size := by omega
 have hn1 : w.heap.size + 1 ≠ V.heap.size := by omega
 have d0 : ∀ o, (V.alloc o).cell? ⟨w.heap.size + 1, 0, none⟩ = some (.int .i64 (b 0)) := fun o => (World.cell?_alloc_old _ _ _ hn1).trans b0
 have d1 : ∀ o, (V.alloc o).cell? ⟨w.heap.size + 1, 1, none⟩ = some (.int .i64 (b 1)) := fun o => (World.cell?_alloc_old _ _ _ hn1).trans b1
 have d2 : ∀ o, (V.alloc o).cell? ⟨w.heap.size + 1, 2, none⟩ = some (.int .i64 (b 2)) := fun o => (World.cell?_alloc_old _ _ _ hn1).trans b2
 have d3 : ∀ o, (V.alloc o).cell? ⟨w.heap.size + 1, 3, none⟩ = some (.int .i64 (b 3)) := fun o => (World.cell?_alloc_old _ _ _ hn1).trans b3
 have d4 : ∀ o, (V.alloc o).cell? ⟨w.heap.size + 1, 4, none⟩ = some (.int .i64 (b 4)) := fun o => (World.cell?_alloc_old _ _ _ hn1).trans b4
 have d5 : ∀ o, (V.alloc o).cell? ⟨w.heap.size + 1, 5, none⟩ = some (.int .i64 (b 5)) := fun o => (World.cell?_alloc_old _ _ _ hn1).trans b5
 go_region_law (first
  |(go_simp; go_at_call 128; refine (GB.out V.drew _).mono ?_; rintro e w1 ⟨rfl, hb1⟩; have S1 := yab (S0.out.more ⟨hb1.os, hb1.tape, hb1.output, hb1.size, hb1.block⟩); clear hb1; have c0 := S1.out.b 0 (by omega); have c1 := S1.out.b 1 (by omega); have c2 := S1.out.b 2 (by omega); have c3 := S1.out.b 3 (by omega); have c4 := S1.out.b 4 (by omega); have c5 := S1.out.b 5 (by omega); dsimp only))
 all_goals
  go_wp2
  go_ret
  exact ⟨rfl, S1.out.bel⟩
theorem ycr (R : Rec) (k : Nat → Int) (w : World) :
  Calls Tryz.prog 223 #[.agg #[.int .i64 (k 0), .int .i64 (k 1), .int .i64 (k 2), .int .i64 (k 3), .int .i64 (k 4), .int .i64 (k 5)], ybb R] w fun e w' => e = .returned (.bool (leB R.ch k)) ∧ Below w.heap.size w w' := by
 unfold ybb
 have WI := yab (fun V => yrr R.ch k V)
 generalize leB R.ch k = z at *
 go_enter Tryz.func223, Tryz.ntmps223
 go_wp2_with (go_at_call 198; refine (WI.out _).mono ?_; rintro e w1 ⟨rfl, hb1⟩)
 go_ret
 exact ⟨rfl, (((Below.refl _ _).alloc (Nat.le_refl _) _).alloc (by simp) _).trans (hb1.mono (by simp; omega))⟩
end Go.Proofs.K

namespace Go.Proofs.K
open Go.RowKit Go.Lib Go.Maps
structure Rp (w : World) (rb s : Nat) (cm : Nat → Int) (mb : Nat) (E : yau) : Prop where
 rep : ybs w rb s cm mb
 own : w.ownsMap Tryz.prog 9 yar mb E.length (ycb E)
 ris : yav E
section
variable {w w' : World} {rb s mb : Nat} {cm : Nat → Int} {E : yau}
theorem Rp.keep (h : Rp w rb s cm mb E) (h1 : w'.heap[rb]? = w.heap[rb]?) (h2 : w'.heap[mb]? = w.heap[mb]?) : Rp w' rb s cm mb E := ⟨h.rep.keep h1, ybf h.own h2, h.ris⟩
theorem Rp.below (h : Rp w rb s cm mb E) (hb : Below w.heap.size w w') : Rp w' rb s cm mb E := h.keep (hb.block _ h.rep.lt) (hb.block _ h.own.lt)
end
theorem yez.fr {w w' : World} {S : Nat → Prop} (h : yez w) (hf : Fr S w w') (hS : ∀ k, k < 8 → ¬ S k) : yez w' := by
 have hsz := h.sz
 refine ⟨?_, ?_, ?_, ?_, Nat.le_trans h.sz hf.size⟩
 ·obtain ⟨m, q⟩ := h.max; exact ⟨m, (hf.cell (p := ⟨0, 0, none⟩) (by simp only; omega) (hS 0 (by omega))).trans q⟩
 ·obtain ⟨a, b, q⟩ := h.syn; exact ⟨a, b, (hf.cell (p := ⟨2, 0, none⟩) (by simp only; omega) (hS 2 (by omega))).trans q⟩
 ·obtain ⟨a, b, q⟩ := h.rng; exact ⟨a, b, (hf.cell (p := ⟨3, 0, none⟩) (by simp only; omega) (hS 3 (by omega))).trans q⟩
 ·have h1 := h.tab
  unfold Lib.TabIs World.var? at *
  rw [yod] at *
  simp only [Option.bind_eq_bind, Option.bind_some] at *
  rw [hf.block 1 (by omega) (hS 1 (by omega))]
  exact h1
theorem le_slt (p q : ByteArray) : (slt p q || seq p q) = !slt q p := by
 cases e : slt q p with
 |true =>
  rw [yjp e, yew (fun h => yjq e h.symm)]
  rfl
 |false =>
  cases e' : slt p q with
  |true => rfl
  |false => rw [(ydm p q).2 (yqi e' e)]; rfl
theorem toE_put (D : Drs) (p : ByteArray) (d : DS) (h : ∀ y ∈ D, slt y.1 p = true) : yoj p (ybl d) (toE D) = toE (D ++ [(p, d)]) := by
 unfold yoj
 rw [ymt _ _ (fun x hx => ?_), yhu _ _ (fun x hx => ?_)]
 ·simp [toE]
 ·obtain ⟨y, hy, rfl⟩ := List.mem_map.1 hx
  exact yjp (h y hy)
 ·obtain ⟨y, hy, rfl⟩ := List.mem_map.1 hx
  exact h y hy
theorem toE_len (D : Drs) : (toE D).length = D.length := by simp [toE]
theorem ywy (rb s : Nat) (cm : Nat → Int) (mb : Nat) (w : World) (E : yau) (h : Rp w rb s cm mb E) (hl : E.length < maxLen) (p : ByteArray) (hp : p.size ≤ 1000000000000) (R : Rec) (h0 : 0 ≤ R.bn) (hk : (decide (0 < R.bn) || !eqT R.kn cm) = true) :
  Calls Tryz.prog 112 #[.pointer (some ⟨rb, 0, none⟩), .string p, yad R] w fun e w' => e = .returned (.tuple #[]) ∧ Rp w' rb s cm mb (yoj p R E) ∧ Fr (fun k => k = mb) w w' := by
 unfold yad
 by_cases hb : 0 < R.bn
 ·refine (keep_in rb s cm mb w h.rep E h.ris hl h.own p hp R hb).mono ?_
  rintro e w' ⟨rfl, h1, h2, h3⟩
  exact ⟨rfl, ⟨h1, h2, ynb p R E h.ris⟩, h3⟩
 ·refine (keep_kn rb s cm mb w h.rep E h.ris hl h.own p hp R (by omega) (by simpa [hb] using hk)).mono ?_
  rintro e w' ⟨rfl, h1, h2, h3⟩
  exact ⟨rfl, ⟨h1, h2, ynb p R E h.ris⟩, h3⟩
end Go.Proofs.K
